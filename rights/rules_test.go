package rights_test

import (
	"slices"
	"strings"
	"testing"

	"letterlock/api"
	"letterlock/rights"
)

// P3: what lies in and behind the lists that are handed in is neither written into, nor read.
func TestListsAreLeft(t *testing.T) {
	whole := []string{"b", "d", "f", "h", "Behind", "a", "d"}
	before := slices.Clone(whole)
	for _, r := range []api.Rights{
		made("anna", "notes", 0, whole[:2], whole[2:4]), // what is put behind the readers would be a writer
		made("anna", "notes", 0, whole[2:4], whole[:2]),
		made("anna", "notes", 0, whole[:0], whole[:4]),
		made("anna", "notes", 0, whole[:3], whole[:0]),
		made("anna", "notes", 0, whole[1:1], whole[3:3]),
	} {
		for _, user := range []string{"a", "b", "c", "d", "e", "f", "g", "h", "i", "anna", "A"} {
			for _, s := range []step{{user, true, false}, {user, true, true}, {user: user}} {
				want, e := s.ought(r)
				if got, f := s.take(r); !same(got, want) || f != e {
					t.Errorf("%s, %v: %s, %v", show(r), s, show(got), f)
				}
			}
			rights.Can(r, user, false)
		}
		if s, e := rights.Put(r); e != api.OK || !rights.Right(r) {
			t.Errorf("%q, %v", s, e)
		}
		if !slices.Equal(whole, before) {
			t.Fatalf("%q", whole)
		}
	}
}

// fill writes over all of a list, and over what lies behind its length.
func fill(l []string) {
	l = l[:cap(l)]
	for i := range l {
		l[i] = "other"
	}
}

// P3: lists that are answered are new: they share nothing with those that were handed in, nor with one another.
func TestListsAreNew(t *testing.T) {
	for _, r := range append(some(), eachWay(2)...) {
		for _, s := range []step{{"m", true, false}, {"m", true, true}, {user: "ben"}, {user: "z"}, {user: "a"}} {
			given := apartFrom(r)
			got, e := s.take(given)
			if e != api.OK {
				continue
			}
			kept := apartFrom(got)
			fill(got.Readers)
			if !same(given, r) || !slices.Equal(got.Writers, kept.Writers) {
				t.Fatalf("%s, %v: written into by way of the readers", show(r), s)
			}
			fill(got.Writers)
			if !same(given, r) {
				t.Fatalf("%s, %v: written into by way of the writers", show(r), s)
			}
			got, _ = s.take(given)
			fill(given.Readers)
			fill(given.Writers)
			if !same(got, kept) {
				t.Fatalf("%s, %v: a change of what was handed in is seen", show(r), s)
			}
		}
	}
}

// P3: so are those that are taken, each time.
func TestTakenListsAreNew(t *testing.T) {
	for _, r := range some() {
		s, _ := rights.Put(r)
		one, _ := rights.Take(s)
		two, _ := rights.Take(s)
		fill(one.Readers)
		if !slices.Equal(one.Writers, r.Writers) || !same(two, r) {
			t.Fatalf("%s: one list is written into by way of the other", show(r))
		}
		fill(one.Writers)
		taken(t, s, r, api.OK)
		if !same(two, r) {
			t.Fatal(show(two))
		}
	}
}

// P5: lists of nothing are the same, nil or empty.
func TestListsOfNothing(t *testing.T) {
	a, b := made("anna", "notes", 4, nil, nil), made("anna", "notes", 4, []string{}, []string{})
	s, e := rights.Put(a)
	if r, f := rights.Put(b); s != r || s == "" || e != api.OK || f != api.OK {
		t.Errorf("%q, %q, %v, %v", s, r, e, f)
	}
	if !rights.Right(a) || !rights.Right(b) || !rights.Can(a, "anna", true) || !rights.Can(b, "anna", true) {
		t.Error("not right, nil or empty")
	}
	taken(t, s, a, api.OK)
}

// P1: rights of great lists and long texts are refused, and each call ends soon.
func TestGreatRights(t *testing.T) {
	great, rising := slices.Repeat([]string{"b"}, 1<<20), manyNames()
	long := strings.Repeat("q", 1<<24)
	for i, r := range []api.Rights{
		made("anna", "notes", 0, great, nil), made("anna", "notes", 0, nil, great), made("anna", "notes", 0, rising, nil), made("anna", "notes", 0, nil, rising), made("anna", "notes", 0, rising, great),
		made(long, "notes", 0, nil, nil), made("anna", long, 0, nil, nil), made("anna", "notes", 0, []string{long}, nil), made("anna", "notes", 0, nil, []string{long}),
	} {
		if rights.Right(r) || rights.Can(r, "anna", false) {
			t.Errorf("%d is right", i)
		}
		for _, s := range []step{{"m", true, false}, {long, true, true}, {user: "b"}} {
			if got, e := s.take(r); !same(got, api.Rights{}) || e != api.ErrArg {
				t.Errorf("%d: %v", i, e)
			}
		}
		if s, e := rights.Put(r); s != "" || e != api.ErrArg {
			t.Errorf("%d: %v", i, e)
		}
	}
}

// P4: the same is answered again, whatever was asked between.
func TestTheSameAgain(t *testing.T) {
	l, steps := append(some(), wrong()[:500]...), eachStep()
	tell := func(r api.Rights) string {
		s, e := rights.Put(r)
		b := s + e.Error()
		for _, x := range steps {
			got, e := x.take(r)
			s, _ := rights.Put(got)
			b += s + e.Error()
			if rights.Can(r, x.user, x.write) {
				b += "can"
			}
		}
		return b
	}
	first := make([]string, len(l))
	for i, r := range l {
		first[i] = tell(r)
	}
	for i := len(l) - 1; i >= 0; i-- {
		if tell(l[i]) != first[i] {
			t.Errorf("%s is told of in two ways", show(l[i]))
		}
	}
}
