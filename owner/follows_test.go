package owner_test

import (
	"slices"
	"testing"

	"letterlock/api"
	"letterlock/fresh"
	"letterlock/meta"
	"letterlock/owner"
	"letterlock/tree"
	"letterlock/user"
)

// trusted holds what was put of one of a user's files against what a reader of it asks: it is taken, checks, and is covered.
func trusted(t *testing.T, u *user.User, o owner.Op, time uint64) owner.Envelope {
	t.Helper()
	x, e := owner.Take(o.Blob)
	if e != api.OK || !owner.Right(x) {
		t.Fatalf("%s: %v", o.Key, e)
	}
	file := x.Meta.Rights.File
	if o.Key != owner.MetaKey(u.Name(), file) || o.Delete || meta.Check(x.Meta, u.Public(), u.Name(), file) != api.OK || fresh.Check(x.Stamp, u.Public(), u.Name(), time, 0) != api.OK {
		t.Fatalf("%s: %s", o.Key, show(x))
	}
	leaf, e := tree.Leaf(file, x.Meta.Version)
	if e != api.OK || !fresh.Covers(x.Stamp, x.At, leaf, x.Proof) {
		t.Fatalf("%s: %v, %s is not covered", o.Key, e, show(x))
	}
	return x
}

// O4: what is put of a file checks with the owner's public term, is covered, and taken, in walks of all that a user does; with no other term, and at no time ahead.
func TestWhatIsPutIsTrusted(t *testing.T) {
	for seed := range uint64(20) {
		u, d := newUser(t, "anna", seed), &dice{seed}
		other := newUser(t, "anna", seed+1).Public()
		most, many := 0, 0
		for i := range 100 {
			step(u, d)
			time := uint64(i) << uint(seed)
			l, e := planned(t, u, names()[d.roll(17)], time+1, everybody())
			if e == api.ErrBig { // a meta of many others, and many epochs
				continue
			}
			most, many = max(most, len(l)), many+1
			for _, o := range l {
				x := trusted(t, u, o, time+1)
				file := x.Meta.Rights.File
				if meta.Check(x.Meta, other, "anna", file) != api.ErrSig || fresh.Check(x.Stamp, other, "anna", time+1, 0) != api.ErrSig || fresh.Check(x.Stamp, u.Public(), "anna", time, 1<<63) != api.ErrStale {
					t.Fatalf("%s: %s", o.Key, show(x))
				}
				if s, e := owner.Put(x); s != o.Blob || e != api.OK {
					t.Fatalf("%s: %v", o.Key, e)
				}
			}
		}
		if most < 5 || many < 70 {
			t.Errorf("%d: %d plans of at most %d files", seed, many, most)
		}
	}
}

// O4: a version that is not the one that there is, is not covered by what was put behind it; nor is one file as another.
func TestWhatIsOldIsNotCovered(t *testing.T) {
	for many := 1; many <= 8; many++ {
		u := owns(t, "anna", many)
		old, e := owner.Plan(u, "", 7, everybody())
		must(t, e)
		for _, file := range eight()[:many] {
			must(t, u.Grant(file, "gus", true), u.Revoke(file, "gus"))
		}
		l, e := owner.Plan(u, "", 8, everybody())
		must(t, e)
		for i := range l {
			was, is := trusted(t, u, old[i], 7), trusted(t, u, l[i], 8)
			leaf, _ := tree.Leaf(was.Meta.Rights.File, was.Meta.Version)
			if fresh.Covers(is.Stamp, is.At, leaf, is.Proof) {
				t.Errorf("%d of %d: an old version is covered", i, many)
			}
			for j := range l {
				y := trusted(t, u, l[j], 8)
				leaf, _ := tree.Leaf(y.Meta.Rights.File, y.Meta.Version)
				if fresh.Covers(is.Stamp, is.At, leaf, is.Proof) != (i == j) || y.Stamp != is.Stamp {
					t.Errorf("%d as %d of %d", j, i, many)
				}
			}
		}
	}
}

// O4: all that is put at one time has one stamp, and each place once, in order of the files.
func TestOneStampOfAll(t *testing.T) {
	for many := range 9 {
		u := owns(t, longest, many)
		for _, first := range append(u.Files(), "") {
			l, e := owner.Plan(u, first, 1<<40, everybody())
			must(t, e)
			if len(l) != many {
				t.Fatalf("%d, not %d", len(l), many)
			}
			var places []int
			for _, o := range l {
				x := trusted(t, u, o, 1<<40)
				if x.Stamp.Many != many || u.Files()[x.At] != x.Meta.Rights.File || x.Stamp != trusted(t, u, l[0], 1<<40).Stamp {
					t.Errorf("%d: %s", many, show(x))
				}
				places = append(places, x.At)
			}
			slices.Sort(places)
			for at, place := range places {
				if at != place {
					t.Errorf("%d: %v", many, places)
				}
			}
		}
	}
}

// O4: who has a right to a file opens its block of what was put, and nobody else does.
func TestWhatIsPutIsOpened(t *testing.T) {
	anna, ben, cy := newUser(t, "anna", 1), newUser(t, "ben", 2), newUser(t, "cy", 3)
	must(t, anna.Create("notes"), anna.Create("bills"), anna.Grant("notes", "ben", true), anna.Grant("bills", "cy", false))
	known := []meta.Known{{Name: "cy", Public: cy.Public()}, {Name: "ben", Public: ben.Public()}}
	l, e := owner.Plan(anna, "notes", 4, known)
	must(t, e)
	notes, bills := trusted(t, anna, l[0], 4), trusted(t, anna, l[1], 4)
	held, _ := anna.Own("notes")
	if _, signer, e := meta.Open(notes.Meta, "ben", ben.Secret()); signer != held.Signers[0] || e != api.OK {
		t.Error(signer, e)
	}
	if _, signer, e := meta.Open(bills.Meta, "cy", cy.Secret()); signer != "" || e != api.OK {
		t.Error(signer, e)
	}
	if _, _, e := meta.Open(notes.Meta, "cy", cy.Secret()); e != api.ErrDenied {
		t.Error(e)
	}
	if _, _, e := meta.Open(bills.Meta, "cy", ben.Secret()); e != api.ErrSig {
		t.Error(e)
	}
}
