package user_test

import (
	"slices"
	"strings"
	"testing"

	"letterlock/api"
	"letterlock/meta"
	"letterlock/user"
)

// shared is a user with rights of each kind, and some epochs.
func shared(t *testing.T) *both {
	t.Helper()
	b := newBoth(t, "anna", 9)
	for _, file := range []string{"notes", "bills"} {
		b.must(b.create(file))
		for i, who := range []string{"z", "ben", "dora", "cy"} {
			b.must(b.grant(file, who, i%2 == 0))
		}
		b.must(b.revoke(file, "ben"))
		b.must(b.revoke(file, "dora"))
		b.must(b.grant(file, "ben", false))
	}
	b.must(b.create("gone"))
	b.must(b.remove("gone"))
	return b
}

// P1: great texts and lists are refused, or found nowhere, and each call ends soon.
func TestGreatInputs(t *testing.T) {
	b, long := shared(t), strings.Repeat("k", 1<<24)
	if u, e := user.New(long, 1); u != nil || e != api.ErrName {
		t.Error(e)
	}
	for _, c := range []struct{ got, want api.Errno }{
		{b.u.Create(long), api.ErrName}, {b.u.Remove(long), api.ErrNone}, {b.u.Grant(long, long, true), api.ErrNone}, {b.u.Revoke(long, long), api.ErrNone},
		{b.u.Grant("notes", long, true), api.ErrName}, {b.u.Revoke("notes", long), api.ErrName},
	} {
		if c.got != c.want {
			t.Errorf("%v, not %v", c.got, c.want)
		}
	}
	many := slices.Repeat([]meta.Known{{Name: long, Public: long}}, 1<<20)
	if _, e := b.u.Meta("notes", many); e != api.ErrNone {
		t.Error(e)
	}
	if _, e := b.u.Meta("notes", append(many, everybody()...)); e != api.OK {
		t.Error(e)
	}
	b.hold("notes", "gone")
}

// P2: what errs changes nothing, and draws nothing.
func TestErrorsChangeNothing(t *testing.T) {
	b, d := newBoth(t, "anna", 9), &dice{21}
	for range 60 {
		b.step(d)
		for _, x := range append(noNames(), "none", "anna") {
			b.u.Meta(x, nil)
			b.u.Own(x)
			for _, e := range []event{{do: 'c', file: x}, {'g', x, x, true}, {'g', "notes", x, true}, {do: 'k', file: x, who: x}, {do: 'k', file: "notes", who: x}, {do: 'm', file: x}} {
				if b.o.can(e) != api.OK {
					b.do(e)
				}
			}
		}
		b.hold(names()...)
	}
}

// spoil writes over all of a list, and over what lies behind its length.
func spoil(l []string) {
	l = l[:cap(l)]
	for i := range l {
		l[i] = "other"
	}
}

// P3: what is answered shares nothing with what is held, nor with another answer, nor one of its lists with another one.
func TestAnswersAreNew(t *testing.T) {
	for i := range 8 {
		b := shared(t)
		x, _ := b.u.Own("notes")
		y, _ := b.u.Own("notes")
		m, _ := b.u.Meta("notes", everybody())
		n, _ := b.u.Meta("notes", everybody())
		c := b.copied()
		kept, files := fresh(y), b.u.Files()
		switch i {
		case 0:
			spoil(x.Signers)
		case 1:
			spoil(x.Rights.Readers)
			if !slices.Equal(x.Rights.Writers, kept.Rights.Writers) || !slices.Equal(x.Signers, kept.Signers) {
				t.Error("a list is written into by way of the readers")
			}
		case 2:
			spoil(x.Rights.Writers)
			if !slices.Equal(x.Rights.Readers, kept.Rights.Readers) || !slices.Equal(x.Signers, kept.Signers) {
				t.Error("a list is written into by way of the writers")
			}
		case 3:
			spoil(m.Verify)
		case 4:
			spoil(m.Rights.Readers)
			spoil(m.Rights.Writers)
		case 5:
			for j := range m.Blocks[:cap(m.Blocks)] {
				m.Blocks[:cap(m.Blocks)][j] = meta.Block{User: "other"}
			}
		case 6:
			spoil(b.u.Files())
		case 7:
			z, _ := c.u.Own("notes")
			spoil(z.Signers)
			spoil(z.Rights.Readers)
			spoil(z.Rights.Writers)
		}
		if want, _ := b.o.meta("notes", everybody()); !same(y, kept) || !sameMeta(n, want) || !slices.Equal(files, []string{"bills", "notes"}) {
			t.Errorf("%d: another answer is written into", i)
		}
		for _, x := range []*both{b, c} {
			x.hold("notes")
			x.must(x.revoke("notes", "z"))
			x.must(x.grant("notes", "a", true))
			x.hold("notes")
		}
	}
}

// P3: what was answered stays as it was, whatever is done behind it.
func TestAnswersStay(t *testing.T) {
	type told struct {
		x, kept     user.Owned
		m, said     meta.Meta
		files, were []string
	}
	b, d := newBoth(t, "anna", 9), &dice{8}
	var all []told
	for range 300 {
		b.step(d)
		for _, file := range []string{"notes", "ben", "a"} {
			x, _ := b.u.Own(file)
			m, _ := b.u.Meta(file, everybody())
			said, _ := b.o.meta(file, everybody())
			files := b.u.Files()
			all = append(all, told{x, fresh(x), m, said, files, slices.Clone(files)})
		}
		if d.roll(5) == 0 {
			b = b.copied()
		}
	}
	for _, x := range all {
		if !same(x.x, x.kept) || !sameMeta(x.m, x.said) || !slices.Equal(x.files, x.were) {
			t.Fatalf("%s, not %s", show(x.x), show(x.kept))
		}
	}
}

// P3: whom all know is neither written into nor kept, nor is what lies behind its length read.
func TestKnownIsLeft(t *testing.T) {
	b, known := shared(t), everybody()
	kept := slices.Clone(known)
	m, _ := b.u.Meta("notes", known)
	if !slices.Equal(known, kept) {
		t.Errorf("%q", known)
	}
	for i := range known {
		known[i] = meta.Known{Name: "other"}
	}
	if want, _ := b.o.meta("notes", kept); !sameMeta(m, want) {
		t.Error("a later change is seen")
	}
	if _, e := b.u.Meta("notes", known); e != api.ErrNone {
		t.Error(e)
	}
	if _, e := b.u.Meta("notes", kept[:0]); e != api.ErrNone {
		t.Error(e)
	}
}

// P4: the same is answered again, in the same order, however often it is asked.
func TestTheSameAgain(t *testing.T) {
	b := shared(t)
	for range 200 {
		b.hold("notes", "gone", "none")
	}
}

// P4: the same is told of two users of one name and seed with which the same was done.
func TestSameOfTheSame(t *testing.T) {
	one, two := newBoth(t, "anna", 9), newBoth(t, "anna", 9)
	d1, d2 := &dice{4}, &dice{4}
	for range 300 {
		one.step(d1)
		two.step(d2)
		for _, file := range names() {
			x, e := one.u.Own(file)
			if y, f := two.u.Own(file); !same(x, y) || e != f {
				t.Fatalf("%q: %s, %s", file, show(x), show(y))
			}
		}
	}
}

// P4: what is done with one user is nothing to another one, of the same name and seed, too.
func TestUsersDoNotMix(t *testing.T) {
	var all []*both
	for _, n := range []string{"anna", "ben", "anna", "notes"} {
		all = append(all, newBoth(t, n, 9))
	}
	d := &dice{6}
	for range 200 {
		all[d.roll(len(all))].step(d)
		for _, b := range all {
			b.hold("notes", "ben", "a")
		}
	}
	newBoth(t, "anna", 9).hold(names()...)
}
