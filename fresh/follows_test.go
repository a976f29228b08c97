package fresh_test

import (
	"math"
	"slices"
	"testing"

	"letterlock/api"
	"letterlock/closure"
	"letterlock/draw"
	"letterlock/fresh"
	"letterlock/term"
	"letterlock/tree"
)

// secretOf is what a user draws, publicOf its public term.
func secretOf(t *testing.T, user string) string {
	t.Helper()
	s, e := draw.Secret("user", user, draw.New(uint64(len(user))).Next())
	if e != api.OK {
		t.Fatal(e)
	}
	return s
}

func publicOf(t *testing.T, user string) string {
	t.Helper()
	s, e := term.OfPublic(secretOf(t, user))
	if e != api.OK {
		t.Fatal(e)
	}
	return s
}

// stamped is a user's stamp.
func stamped(t *testing.T, user string, time uint64, leaves []string) fresh.Stamp {
	t.Helper()
	s, e := built(t, given{secretOf(t, user), user, time, leaves})
	if e != api.OK || !fresh.Right(s) {
		t.Fatal(show(s), e)
	}
	return s
}

// K5: what was built is right, and taken as it was put.
func TestWhatWasBuiltIsTaken(t *testing.T) {
	for _, user := range owners {
		for _, time := range times {
			for _, many := range counts {
				s := stamped(t, user, time, files(many))
				b, e := fresh.Put(s)
				if e != api.OK {
					t.Fatal(e)
				}
				taken(t, b, s)
			}
		}
	}
}

// K5: what was built checks with the owner's public term, from its time on for as long as bound; with no other one, and at no other time.
func TestWhenItChecks(t *testing.T) {
	for _, time := range times {
		s := stamped(t, "anna", time, files(3))
		for _, bound := range times {
			end := uint64(math.MaxUint64)
			if bound < end-time {
				end = time + bound
			}
			for _, now := range []uint64{time, time + (end-time)/2, end} {
				checks(t, asked{s, publicOf(t, "anna"), "anna", now, bound}, api.OK)
				checks(t, asked{s, publicOf(t, "ben"), "anna", now, bound}, api.ErrSig)
				checks(t, asked{s, publicOf(t, "ben"), "ben", now, bound}, api.ErrSig)
				checks(t, asked{s, publicOf(t, "anna"), "ben", now, bound}, api.ErrName)
			}
			if time > 0 {
				checks(t, asked{s, publicOf(t, "anna"), "anna", time - 1, bound}, api.ErrStale)
				checks(t, asked{s, publicOf(t, "anna"), "anna", 0, bound}, api.ErrStale)
			}
			if end < math.MaxUint64 {
				checks(t, asked{s, publicOf(t, "anna"), "anna", end + 1, bound}, api.ErrStale)
				checks(t, asked{s, publicOf(t, "anna"), "anna", math.MaxUint64, bound}, api.ErrStale)
			}
		}
	}
}

// pieces are the terms that a row's tree is made of, and those that its leaves are.
func pieces(t *testing.T, l []string) []string {
	t.Helper()
	all := slices.Clone(l)
	for at := range l {
		proof, e := tree.Proof(l, at)
		if e != api.OK {
			t.Fatal(e)
		}
		all = append(all, proof...)
	}
	slices.Sort(all)
	return slices.Compact(all)
}

// walk hands out all lists of at most so many of these.
func walk(most int, of []string, visit func(l []string)) {
	var further func(l []string)
	further = func(l []string) {
		visit(l)
		if len(l) == most {
			return
		}
		for _, x := range of {
			further(append(l[:len(l):len(l)], x))
		}
	}
	further(nil)
}

// K5: it covers each of its leaves, at its place, and no others by any proof of what is known of them.
func TestItCoversEachOfItsLeaves(t *testing.T) {
	for many := range 5 {
		l := files(many)
		s := stamped(t, "anna", 7, l)
		other := leafOf("notes", 99)
		of := append(pieces(t, l), other, "h"+other, "t\x00")
		for at := -1; at <= many; at++ {
			found := map[string]int{}
			walk(2, of, func(p []string) {
				for _, leaf := range append(l[:many:many], other, "t\x00", "") {
					if covered(t, s, at, leaf, p) {
						found[leaf]++
					}
				}
			})
			want := map[string]int{}
			if at >= 0 && at < many {
				want[l[at]] = 1
			}
			if len(found) != len(want) || at >= 0 && at < many && found[l[at]] != 1 {
				t.Errorf("of %d leaves, at %d: %s", many, at, show(found))
			}
		}
	}
}

// K5: so it is of as many leaves as there may be; a version that is another, or one that is no more, is not covered.
func TestItCoversNoOtherVersion(t *testing.T) {
	for _, many := range counts {
		before := files(many)
		for at := range many {
			now := files(many)
			now[at] = leafOf("new", 1)
			old, young := stamped(t, "anna", 7, before), stamped(t, "anna", 8, now)
			for of := range many {
				was, _ := tree.Proof(before, of)
				is, _ := tree.Proof(now, of)
				if !covered(t, old, of, before[of], was) || !covered(t, young, of, now[of], is) {
					t.Errorf("%d of %d is not covered", of, many)
				}
				if covered(t, young, of, before[of], was) || covered(t, old, of, now[of], is) {
					t.Errorf("%d of %d is covered by what was said at another time", of, many)
				}
				if covered(t, young, of, before[of], is) != (of != at) || covered(t, old, of, now[of], was) != (of != at) {
					t.Errorf("%d of %d, of which %d was changed", of, many, at)
				}
			}
		}
	}
}

// K5: nobody but the owner can put a stamp together that checks: not at another time, nor of other leaves, whatever was stamped.
func TestWhoCanStamp(t *testing.T) {
	var found []string
	for time := range uint64(8) {
		s := stamped(t, "anna", time, files(int(time)))
		found = append(found, s.Root, s.Sig)
	}
	for n := range uint64(10) { // times, and what else is a number that all know
		found = append(found, term.OfAtom(n), term.OfAtom(100*n))
	}
	found = append(found, publicOf(t, "anna"), secretOf(t, "ben"))
	tells := func(held []string, x string) bool {
		told, e := closure.Derives(held, x)
		if e != api.OK {
			t.Fatal(e)
		}
		return told
	}
	for time := range uint64(10) {
		for _, many := range counts {
			s := stamped(t, "anna", time, files(many))
			if want := time < 8 && many == int(time); tells(found, s.Sig) != want {
				t.Errorf("a stamp of %d leaves of the time %d can be told: not %v", many, time, want)
			}
			if !tells(append(slices.Clone(found), secretOf(t, "anna")), s.Sig) {
				t.Errorf("anna cannot stamp %d leaves at %d", many, time)
			}
			other := signedStamp(secretOf(t, "ben"), s)
			if !tells(found, other.Sig) {
				t.Errorf("ben cannot sign what he likes")
			}
			checks(t, asked{other, publicOf(t, "anna"), "anna", time, 0}, api.ErrSig)
		}
	}
}

// dice rolls the same numbers each time.
type dice struct{ n uint64 }

func (d *dice) roll(below int) int {
	d.n = d.n*6364136223846793005 + 1442695040888963407
	return int(d.n>>33) % below
}

// K1 to K5: an owner's files that change by dice, and a store that answers with any stamp that was ever said: what is trusted is not older than the bound.
func TestByDice(t *testing.T) {
	d := &dice{11}
	type said struct {
		s      fresh.Stamp
		leaves []string
	}
	fine, stale := 0, 0
	var all []said
	leaves := files(5)
	const bound = 6
	for now := range uint64(3000) {
		at := d.roll(len(leaves))
		switch d.roll(4) {
		case 0:
			leaves = slices.Clone(leaves)
			leaves[at] = leafOf("notes", now)
		case 1:
			leaves = files(1 + d.roll(8))
		}
		if d.roll(2) == 0 || len(all) == 0 {
			all = append(all, said{stamped(t, "anna", now, leaves), leaves})
		}
		x := all[len(all)-1-d.roll(min(len(all), 8))]
		e := checked(t, asked{x.s, publicOf(t, "anna"), "anna", now, bound})
		switch {
		case e == api.OK && now-x.s.Time <= bound:
			fine++
		case e == api.ErrStale && now-x.s.Time > bound:
			stale++
		default:
			t.Errorf("of the time %d, at %d: %v", x.s.Time, now, e)
		}
		of := d.roll(len(x.leaves))
		proof, _ := tree.Proof(x.leaves, of)
		if !covered(t, x.s, of, x.leaves[of], proof) || covered(t, x.s, of, leafOf("notes", 1<<40), proof) {
			t.Errorf("%s at %d", show(x), of)
		}
	}
	if fine < 500 || stale < 500 {
		t.Error(fine, stale)
	}
}
