package meta_test

import (
	"slices"
	"testing"

	"letterlock/api"
	"letterlock/closure"
	"letterlock/meta"
	"letterlock/regress"
	"letterlock/rights"
)

// follow holds what was built against all that follows of that.
func follow(t *testing.T, g given, m meta.Meta) {
	t.Helper()
	if !meta.Right(m) {
		t.Fatalf("%s is not right", show(m))
	}
	s, e := meta.Put(m)
	if e != api.OK {
		t.Fatal(e)
	}
	taken(t, s, m)
	if e := meta.Check(m, "u"+g.secret, g.r.Owner, g.r.File); e != api.OK {
		t.Errorf("%s: %v", show(m), e)
	}
	for _, n := range append([]string{"anna", "nobody"}, people...) {
		public := "u" + secretOf(n)
		if e := meta.Check(m, public, g.r.Owner, g.r.File); (e == api.OK) != (public == "u"+g.secret) {
			t.Errorf("%s, %q: %v", show(m), public, e)
		}
		opensWhat(t, g, m, n)
	}
}

// opensWhat holds what each secret opens of a user's block against that user's rights.
func opensWhat(t *testing.T, g given, m meta.Meta, user string) {
	t.Helper()
	reads, writes := slices.Contains(g.r.Readers, user), slices.Contains(g.r.Writers, user)
	for _, n := range append([]string{"anna", "nobody"}, people...) {
		state, signer, e := meta.Open(m, user, secretOf(n))
		switch {
		case !reads && !writes:
			if e != api.ErrDenied {
				t.Errorf("%s, %q: %v", show(m), user, e)
			}
		case n != user:
			if e != api.ErrSig {
				t.Errorf("%s, %q by the secret of %q: %v", show(m), user, n, e)
			}
		default:
			want, _ := regress.State(g.root, g.r.Epoch)
			last := ""
			if writes {
				last = g.signers[g.r.Epoch]
			}
			if state != want || signer != last || e != api.OK {
				t.Errorf("%s, %q: %q, %q, %v", show(m), user, state, signer, e)
			}
		}
	}
}

// H5: of all ways to have others, at each epoch.
func TestWhatFollows(t *testing.T) {
	for epoch := range lastEpoch + 1 {
		for i, r := range eachWay(epoch) {
			if i%4 != epoch%4 {
				continue
			}
			m, e := of(r).build()
			if e != api.OK {
				t.Fatal(e)
			}
			follow(t, of(r), m)
		}
	}
}

// dice rolls the same numbers each time.
type dice struct{ n uint64 }

func (d *dice) roll(below int) int {
	d.n = d.n*6364136223846793005 + 1442695040888963407
	return int(d.n>>33) % below
}

// H5: files that are granted and revoked, by dice: what is built then follows their rights at each step.
func TestWalks(t *testing.T) {
	d, steps := &dice{3}, 0
	for range 60 {
		r, e := rights.New("anna", "notes")
		if e != api.OK {
			t.Fatal(e)
		}
		for version := range uint64(30) {
			who := people[d.roll(len(people))]
			next, e := rights.Grant(r, who, d.roll(2) > 0)
			if d.roll(3) == 0 {
				next, e = rights.Revoke(r, who)
			}
			if e != api.OK {
				continue
			}
			r = next
			g := of(r)
			g.version, g.secret = version, secretOf("anna")
			m, e := built(t, g)
			if e != api.OK {
				t.Fatal(e)
			}
			follow(t, g, m)
			steps++
		}
	}
	if steps < 500 {
		t.Error(steps)
	}
}

// H5: what somebody can tell who finds a meta, and holds all that is known, and the secrets of these users.
func TestWhatCanBeTold(t *testing.T) {
	for _, r := range some() {
		g := of(r)
		m, e := g.build()
		if e != api.OK {
			t.Fatal(e)
		}
		state, signer := g.state(), g.signers[r.Epoch]
		found := slices.Concat([]string{m.Sig, "u" + anna}, m.Verify)
		for _, b := range m.Blocks {
			found = append(found, b.Box, "u"+secretOf(b.User))
		}
		tells := func(held []string, x string) bool {
			told, e := closure.Derives(held, x)
			if e != api.OK {
				t.Fatal(e)
			}
			return told
		}
		for _, n := range append([]string{"", "nobody"}, people...) {
			held := found
			if n != "" {
				held = append(slices.Clone(found), secretOf(n))
			}
			reads, writes := rights.Can(r, n, false), rights.Can(r, n, true)
			if tells(held, state) != reads || tells(held, signer) != writes || tells(held, anna) {
				t.Errorf("%s: %q tells %v, %v, %v", show(m), n, tells(held, state), tells(held, signer), tells(held, anna))
			}
			if tells(held, g.root) != (reads && r.Epoch == lastEpoch) {
				t.Errorf("%s: %q and the root", show(m), n)
			}
		}
	}
}
