package owner_test

import (
	"slices"
	"strings"
	"testing"

	"letterlock/api"
	"letterlock/meta"
	"letterlock/owner"
	"letterlock/user"
)

// P1: great texts and lists are refused, or left, and each call ends soon.
func TestGreatInputs(t *testing.T) {
	long, x := strings.Repeat("h", 1<<24), least()
	for i, change := range []func(x *owner.Envelope){
		func(x *owner.Envelope) { x.Proof = []string{long} }, func(x *owner.Envelope) { x.Proof = []string{long, long, long} }, func(x *owner.Envelope) { x.Proof = slices.Repeat([]string{long}, 1<<20) }, func(x *owner.Envelope) { x.Proof = slices.Repeat([]string{"a\x00"}, 1<<20) },
		func(x *owner.Envelope) { x.Meta.Sig = long }, func(x *owner.Envelope) { x.Meta.Rights.Owner = long }, func(x *owner.Envelope) { x.Meta.Verify = slices.Repeat([]string{long}, 1<<20) }, func(x *owner.Envelope) { x.Meta.Blocks = slices.Repeat([]meta.Block{{User: long, Box: long}}, 1<<20) },
		func(x *owner.Envelope) { x.Stamp.Owner = long }, func(x *owner.Envelope) { x.Stamp.Root = long }, func(x *owner.Envelope) { x.Stamp.Sig = long },
	} {
		y := apart(x)
		change(&y)
		if s, e := owner.Put(y); owner.Right(y) || s != "" || e != api.ErrArg {
			t.Errorf("%d: %v", i, e)
		}
	}
	u := owns(t, "anna", 4)
	many := slices.Repeat([]meta.Known{{Name: long, Public: long}}, 1<<16)
	if _, e := planned(t, u, long, 7, many); e != api.ErrNone {
		t.Error(e)
	}
	if _, e := dropped(t, u, long, 7, append(many, everybody()...)); e != api.OK {
		t.Error(e)
	}
}

// P2: what errs changes nothing: neither what is held, nor what is drawn next.
func TestErrorsChangeNothing(t *testing.T) {
	u, d := newUser(t, "anna", 4), &dice{9}
	for range 60 {
		step(u, d)
		c := u.Copy()
		for _, known := range [][]meta.Known{nil, everybody(), {{Name: "ben", Public: "x"}}} {
			owner.Plan(u, "notes", 3, known)
			owner.Drop(u, "notes", 3, known)
		}
		owner.Leaves(u)
		v := u.Copy()
		if c.Create("new") != v.Create("new") {
			t.Fatal("another one than its copy")
		}
		alike(t, c, v)
	}
}

// alike holds what two users hold against each other.
func alike(t *testing.T, a, b *user.User) {
	t.Helper()
	if a.Name() != b.Name() || a.Secret() != b.Secret() || !slices.Equal(a.Files(), b.Files()) {
		t.Fatalf("%q, %q", a.Files(), b.Files())
	}
	for _, file := range a.Files() {
		x, _ := a.Own(file)
		y, _ := b.Own(file)
		if show(x) != show(y) || x.Root != y.Root || !slices.Equal(x.Signers, y.Signers) {
			t.Fatalf("%q: %s, %s", file, show(x), show(y))
		}
	}
}

// spoil writes over all of a list, and over what lies behind its length.
func spoil(l []string) {
	l = l[:cap(l)]
	for i := range l {
		l[i] = "other"
	}
}

// P3: lists that are answered are new, and share nothing with one another.
func TestAnswersAreNew(t *testing.T) {
	u := owns(t, "anna", 6)
	want, e := oughtPlan(u, "cy", 7, everybody())
	must(t, e)
	for range 3 {
		l, _ := planned(t, u, "cy", 7, everybody())
		for i := range l[:cap(l)] {
			l[:cap(l)][i] = owner.Op{Key: "other"}
		}
		d, _ := dropped(t, u, "cy", 7, everybody())
		for i := range d[:cap(d)] {
			d[:cap(d)][i] = owner.Op{Key: "other"}
		}
		spoil(owner.Leaves(u))
	}
	for _, o := range want {
		for spoilt := range 6 {
			x, e := owner.Take(o.Blob)
			must(t, e)
			kept := apart(x)
			y, _ := owner.Take(o.Blob)
			lists := []*[]string{&x.Proof, &x.Meta.Verify, &x.Meta.Rights.Readers, &x.Meta.Rights.Writers}
			if spoilt < len(lists) {
				spoil(*lists[spoilt])
				*lists[spoilt] = *[]*[]string{&kept.Proof, &kept.Meta.Verify, &kept.Meta.Rights.Readers, &kept.Meta.Rights.Writers}[spoilt]
			} else {
				for i := range x.Meta.Blocks[:cap(x.Meta.Blocks)] {
					x.Meta.Blocks[:cap(x.Meta.Blocks)][i] = meta.Block{User: "other"}
				}
				x.Meta.Blocks = kept.Meta.Blocks
			}
			if !same(x, kept) || !same(y, kept) {
				t.Fatalf("%s: one list is written into by way of another", o.Key)
			}
			taken(t, o.Blob, kept)
		}
	}
}

// P3: an envelope that is handed in is neither written into nor kept, nor is what lies behind a list's length read.
func TestEnvelopesAreLeft(t *testing.T) {
	all := []string{"a\x00", "t\x00", "ha\x00", "x", "", "a\x00"}
	for length := range len(all) + 1 {
		whole := slices.Clone(all)
		x := least()
		x.Proof = whole[:length]
		s, e := owner.Put(x)
		if right := length <= 3; owner.Right(x) != right || (e == api.OK) != right || !slices.Equal(whole, all) {
			t.Errorf("%d: %v, %q", length, e, whole)
		}
		spoil(whole)
		if e == api.OK {
			y := least()
			y.Proof = all[:length]
			taken(t, s, y)
		}
	}
}

// P3: whom all know is neither written into nor kept, nor is what lies behind its length read.
func TestKnownIsLeft(t *testing.T) {
	u, known := owns(t, "anna", 8), everybody()
	kept := slices.Clone(known)
	l, _ := planned(t, u, "notes", 7, known)
	d, _ := dropped(t, u, "notes", 7, known)
	if !slices.Equal(known, kept) {
		t.Errorf("%q", known)
	}
	for i := range known {
		known[i] = meta.Known{Name: "other"}
	}
	want, _ := oughtPlan(u, "notes", 7, kept)
	if !slices.Equal(l, want) || !slices.Equal(d[2:], want) {
		t.Error("a later change is seen")
	}
	if _, e := planned(t, u, "notes", 7, known); e != api.ErrNone {
		t.Error(e)
	}
	if _, e := planned(t, u, "notes", 7, kept[:0]); e != api.ErrNone {
		t.Error(e)
	}
}

// P3: what was planned stays as it was, whatever is done behind it.
func TestAnswersStay(t *testing.T) {
	type told struct {
		l, kept        []owner.Op
		leaves, leaved []string
	}
	u, d := newUser(t, "anna", 9), &dice{8}
	var all []told
	for i := range 100 {
		step(u, d)
		l, _ := owner.Drop(u, "notes", uint64(i), everybody())
		leaves := owner.Leaves(u)
		all = append(all, told{l, slices.Clone(l), leaves, slices.Clone(leaves)})
	}
	for _, x := range all {
		if !slices.Equal(x.l, x.kept) || !slices.Equal(x.leaves, x.leaved) {
			t.Fatalf("%s, not %s", show(x.l), show(x.kept))
		}
	}
}

// P4: the same is told again, and of a copy, and of another user with which the same was done; what was asked between is nothing to it.
func TestTheSameAgain(t *testing.T) {
	one, two := newUser(t, "anna", 9), newUser(t, "anna", 9)
	d1, d2 := &dice{4}, &dice{4}
	for i := range 100 {
		step(one, d1)
		step(two, d2)
		first, time := names()[i%17], uint64(i)
		l, e := owner.Drop(one, first, time, everybody())
		owner.Plan(one, "a", time+1, nil)
		for range 5 {
			for _, u := range []*user.User{one, two, one.Copy()} {
				if m, f := owner.Drop(u, first, time, everybody()); !slices.Equal(m, l) || e != f {
					t.Fatalf("%s, %v, not %s, %v", show(m), f, show(l), e)
				}
			}
		}
	}
}

// P4: what one user does is nothing to what another one puts.
func TestUsersDoNotMix(t *testing.T) {
	var all []*user.User
	for _, n := range []string{"anna", "ben", "anna", "notes"} {
		all = append(all, newUser(t, n, 9))
	}
	d := &dice{6}
	for range 100 {
		changed := d.roll(len(all))
		var before [][]owner.Op
		for _, u := range all {
			l, _ := owner.Plan(u, "notes", 5, everybody())
			before = append(before, l)
		}
		step(all[changed], d)
		for i, u := range all {
			if l, _ := planned(t, u, "notes", 5, everybody()); i != changed && !slices.Equal(l, before[i]) {
				t.Fatalf("%s, not %s", show(l), show(before[i]))
			}
		}
	}
}
