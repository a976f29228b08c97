package user_test

import (
	"strings"
	"testing"

	"letterlock/api"
	"letterlock/meta"
	"letterlock/rights"
	"letterlock/user"
)

// step does one thing, or tries to, with one of some names, some of which are none.
func (b *both) step(d *dice) api.Errno {
	b.t.Helper()
	texts := append(names()[:11:11], "", "Anna", longest)
	file, who := texts[d.roll(len(texts))], texts[d.roll(len(texts))]
	if held := b.o.files(); d.roll(3) > 0 && len(held) > 0 { // most of the time something that there is
		file = held[d.roll(len(held))]
	}
	return b.do(event{"ccgggggkkkkm"[d.roll(12)], file, who, d.roll(2) == 0})
}

// N1 to N4: whatever is done, one behind the other, all answers are as they ought to be, after each step.
func TestEachStepOfManyWays(t *testing.T) {
	seen := map[byte]map[api.Errno]int{'c': {}, 'g': {}, 'k': {}, 'm': {}}
	for seed := range uint64(40) {
		b, d := newBoth(t, names()[seed%17], seed*0x0123456789abcdef), &dice{seed}
		for range 120 {
			before := len(b.o.done)
			e := b.step(d)
			if len(b.o.done) > before {
				seen[b.o.done[before].do][e]++
			}
			b.hold(append(names(), "", "Anna")...)
		}
	}
	for do, l := range seen {
		if l[api.OK] < 100 {
			t.Errorf("%c: %v", do, l)
		}
	}
}

// each tells of all that is held.
func each(u *user.User, f func(file string, x user.Owned)) {
	for _, file := range u.Files() {
		x, _ := u.Own(file)
		f(file, x)
	}
}

// N5: no two versions of a name are the same: whatever else is held of a file has a version that is greater than all ahead of it.
func TestVersionsOnlyRise(t *testing.T) {
	for seed := range uint64(20) {
		b, d := newBoth(t, "anna", seed), &dice{seed + 300}
		last := map[string]user.Owned{}
		for range 400 {
			b.step(d)
			each(b.u, func(file string, x user.Owned) {
				was, there := last[file]
				if there && !same(x, was) && x.Version <= was.Version {
					t.Fatalf("%q: %s behind %s", file, show(x), show(was))
				}
				last[file] = x
			})
		}
	}
}

// N5: no two secrets of all that were drawn are the same: a user's, roots and signers, of files that are gone, too.
func TestSecretsAreApart(t *testing.T) {
	for seed := range uint64(20) {
		b, d := newBoth(t, "anna", seed), &dice{seed + 400}
		of := map[string]string{b.u.Secret(): "user"} // what each was drawn for
		hold := func(secret, use string) {
			t.Helper()
			if was, there := of[secret]; there && was != use {
				t.Fatalf("%q is of %s and of %s", secret, was, use)
			}
			of[secret] = use
		}
		lives := map[string]int{} // how many files there were of a name
		for range 400 {
			before := len(b.o.done)
			b.step(d)
			if len(b.o.done) > before && b.o.done[before].do == 'c' {
				lives[b.o.done[before].file]++
			}
			each(b.u, func(file string, x user.Owned) {
				life := file + " " + strings.Repeat("i", lives[file])
				hold(x.Root, "root "+life)
				for i, s := range x.Signers {
					hold(s, strings.Repeat("i", i)+" signer "+life)
				}
			})
		}
		draws := 1
		for _, x := range b.o.done {
			draws += map[byte]int{'c': 2, 'k': 1}[x.do]
		}
		if draws < 40 || len(of) != draws {
			t.Errorf("%d secrets of %d draws", len(of), draws)
		}
	}
}

// N3, N4: what is held stays right, and what is said of it checks, with as many signers as epochs.
func TestWhatIsHeldIsRight(t *testing.T) {
	for seed := range uint64(10) {
		b, d := newBoth(t, "anna", seed), &dice{seed + 500}
		other := newBoth(t, "anna", seed+1).u.Public()
		for range 150 {
			b.step(d)
			each(b.u, func(file string, x user.Owned) {
				if !rights.Right(x.Rights) || len(x.Signers) != x.Rights.Epoch+1 || x.Version == 0 || x.Gone {
					t.Fatalf("%q: %s", file, show(x))
				}
				m, e := b.u.Meta(file, everybody())
				if e == api.ErrBig {
					return
				}
				if e != api.OK || meta.Check(m, b.u.Public(), "anna", file) != api.OK || meta.Check(m, other, "anna", file) != api.ErrSig {
					t.Fatalf("%q: %v, %s", file, e, show(x))
				}
			})
		}
	}
}
