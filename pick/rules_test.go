package pick_test

import (
	"slices"
	"strings"
	"testing"

	"letterlock/api"
	"letterlock/pick"
	"letterlock/store"
)

// P1: great texts, of each kind, come to an answer.
func TestGreatInputs(t *testing.T) {
	b, long := newBoth(t), strings.Repeat("k", 1<<24)
	b.put("k", "x")
	for _, k := range kinds() {
		b.hold([]string{long, "k"}, []pick.Choice{{k, 1 << 40, long, long}, {k, 0, long, ""}})
	}
}

// P2: with an error the text is empty, and what errs has answered nothing else.
func TestNothingBesideAnError(t *testing.T) {
	b, d := newBoth(t), &dice{40}
	for range 60 {
		b.some(d, []string{"a", "b"})
		for _, key := range []string{"a", "b", "none", ""} {
			for _, c := range append(choices("none"), pick.Choice{Kind: pick.Made, Bytes: strings.Repeat("x", 40001)}) {
				if blob, e := pick.Get(b.s, key, c); e != api.OK && blob != "" {
					t.Fatalf("%s of %q: %q beside %v", tell(c), key, blob, e)
				}
			}
		}
	}
}

// P3: asking changes nothing in a store, whatever is picked.
func TestAskingChangesNothing(t *testing.T) {
	b, d := newBoth(t), &dice{41}
	for range 30 {
		b.some(d, keys())
	}
	there, ever, puts := b.s.List(""), b.s.Ever(), b.s.Puts()
	for _, key := range append(keys(), strange()...) {
		versions := b.s.Versions(key)
		for _, c := range choices("new") {
			pick.Get(b.s, key, c)
			pick.List(b.s, key, c)
			pick.Lies(b.s, key, c)
		}
		if !slices.Equal(b.s.Versions(key), versions) {
			t.Errorf("%s: %q, not %q", show(key), b.s.Versions(key), versions)
		}
	}
	if !slices.Equal(b.s.List(""), there) || !slices.Equal(b.s.Ever(), ever) || b.s.Puts() != puts {
		t.Errorf("%q, %q, %d", b.s.List(""), b.s.Ever(), b.s.Puts())
	}
	if s := store.New(); s.Puts() != 0 || len(s.Ever()) > 0 {
		t.Error("a new one has something")
	}
}

// P3: lists that are answered are new: who writes into one, or behind its end, changes no answer.
func TestListsAreNew(t *testing.T) {
	b := newBoth(t)
	for _, key := range keys() {
		b.put(key, "x")
	}
	for _, k := range kinds() {
		one, two := pick.List(b.s, "", pick.Choice{Kind: k}), pick.List(b.s, "", pick.Choice{Kind: k})
		kept := slices.Clone(two)
		one = append(one, "behind")
		for i := range one[:cap(one)] {
			one[:cap(one)][i] = "changed"
		}
		if !slices.Equal(two, kept) || !slices.Equal(pick.List(b.s, "", pick.Choice{Kind: k}), kept) {
			t.Fatalf("%q: %q, not %q", k, two, kept)
		}
		b.hold([]string{"", "f"}, []pick.Choice{{Kind: k}})
	}
}

// P3: a list that was answered stays as it was, whatever is done with the store behind it.
func TestListsStay(t *testing.T) {
	b, d := newBoth(t), &dice{42}
	type told struct{ list, kept []string }
	var all []told
	for range 100 {
		b.some(d, keys())
		for _, c := range choices("a") {
			l := pick.List(b.s, "", c)
			all = append(all, told{l, slices.Clone(l)})
		}
	}
	for _, x := range all {
		if !slices.Equal(x.list, x.kept) {
			t.Fatalf("%q, not %q", x.list, x.kept)
		}
	}
}

// P4: the same is answered again, and what is done with the store behind it is seen.
func TestTheSameAgain(t *testing.T) {
	b := newBoth(t)
	b.put("a", "x")
	b.put("a", "y")
	for range 100 {
		b.hold([]string{"a", "b", ""}, choices("b"))
	}
	old := pick.Choice{Kind: pick.Stale, Back: 1}
	one, _ := pick.Get(b.s, "a", old)
	b.put("a", "z")
	two, _ := pick.Get(b.s, "a", old)
	if one != "x" || two != "y" {
		t.Errorf("%q, then %q", one, two)
	}
}

// P4: what is done with one store, or asked of it, is nothing to another one, or to none.
func TestStoresDoNotMix(t *testing.T) {
	all := []*both{newBoth(t), newBoth(t), newBoth(t)}
	d := &dice{43}
	for range 60 {
		all[d.roll(len(all))].some(d, []string{"a", "b"})
		for _, b := range all {
			b.hold([]string{"a", "b", ""}, choices("a"))
		}
		if l := pick.List(nil, "", pick.Choice{}); len(l) > 0 {
			t.Fatalf("%q of none", l)
		}
	}
}
