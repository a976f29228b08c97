package store_test

import (
	"slices"
	"strconv"
	"strings"
	"testing"

	"letterlock/api"
	"letterlock/store"
)

// P1: great texts are refused, or found nowhere.
func TestGreatInputs(t *testing.T) {
	b, long := newBoth(t), strings.Repeat("k", 1<<26)
	b.put("k", "x")
	if b.put(long, "x") != api.ErrArg || b.put(long, long) != api.ErrArg || b.put("k", long) != api.ErrBig || b.delete(long) != api.ErrNone {
		t.Error("a great text is put")
	}
	b.hold(long, "k")
}

// P2: what errs changes nothing, of what is there, or of what ever was.
func TestErrorsChangeNothing(t *testing.T) {
	b, d := newBoth(t), &dice{21}
	some := textsOf("ab", 2)[1:]
	texts := append(slices.Clone(some), "", "none")
	for range 100 {
		b.step(d, some)
		for _, key := range []string{"", strings.Repeat("a", 201), strings.Repeat("a", 1000)} {
			b.put(key, "wrong")
			b.delete(key)
			b.hold(texts...)
		}
		b.put(some[d.roll(len(some))], strings.Repeat("x", 40001))
		b.delete("none")
		b.hold(texts...)
	}
}

// P3: lists that are answered are new: who writes into one, or behind its end, changes no answer.
func TestListsAreNew(t *testing.T) {
	b := newBoth(t)
	for i := range 40 {
		b.put("a", strconv.Itoa(i))
		b.put("b"+strconv.Itoa(i), "x")
		for _, ask := range []func() []string{
			func() []string { return b.s.Versions("a") },
			func() []string { return b.s.List("") },
			func() []string { return b.s.List("b") },
			b.s.Ever,
		} {
			one, two := ask(), ask()
			kept := slices.Clone(two)
			one = append(one, "behind")
			for j := range one[:cap(one)] {
				one[:cap(one)][j] = "changed"
			}
			if !slices.Equal(two, kept) || !slices.Equal(ask(), kept) {
				t.Fatalf("%q, not %q", ask(), kept)
			}
			b.hold("a", "b", "")
		}
	}
}

// P3: a list that was answered is as it was, whatever is done behind it.
func TestListsStay(t *testing.T) {
	b, d := newBoth(t), &dice{8}
	some := textsOf("ab", 2)[1:]
	type told struct{ list, kept []string }
	var all []told
	for range 300 {
		b.step(d, some)
		for _, l := range [][]string{b.s.Versions("a"), b.s.List("a"), b.s.Ever()} {
			all = append(all, told{l, slices.Clone(l)})
		}
	}
	for _, x := range all {
		if !slices.Equal(x.list, x.kept) {
			t.Fatalf("%q, not %q", x.list, x.kept)
		}
	}
}

// P3: bytes of which a key, or a blob, was made may change.
func TestBytesBehindTexts(t *testing.T) {
	b := newBoth(t)
	key, blob := []byte("anna"), []byte("hi")
	b.put(string(key), string(blob))
	key[0], blob[0] = 'x', 'x'
	b.put(string(key), string(blob))
	b.hold("anna", "xnna", "")
}

// P4: the same is answered again, in the same order, however often it is asked, and asking changes nothing.
func TestTheSameAgain(t *testing.T) {
	b := newBoth(t)
	for i := range 500 {
		b.put("k"+strconv.Itoa(i*7919%500), "x")
	}
	there, ever := b.s.List(""), b.s.Ever()
	for range 200 {
		if !slices.Equal(b.s.List(""), there) || !slices.Equal(b.s.Ever(), ever) || !slices.Equal(there, ever) || len(there) != 500 {
			t.Fatal("lists in two orders")
		}
		b.s.Get("none")
		b.s.Versions("none")
		b.s.List("none")
	}
	b.hold("none", "k1", "")
}

// P4: the same is told of two stores with which the same was done.
func TestSameOfTheSame(t *testing.T) {
	one, two := newBoth(t), newBoth(t)
	d1, d2 := &dice{4}, &dice{4}
	for range 400 {
		one.step(d1, keys())
		two.step(d2, keys())
		if !slices.Equal(one.s.List(""), two.s.List("")) || !slices.Equal(one.s.Ever(), two.s.Ever()) || one.s.Puts() != two.s.Puts() {
			t.Fatal("the same does another thing")
		}
	}
}

// P4: what is done with one store is nothing to another one.
func TestStoresDoNotMix(t *testing.T) {
	var all []*both
	for range 4 {
		all = append(all, newBoth(t))
	}
	some := textsOf("ab", 2)[1:]
	d := &dice{6}
	for range 400 {
		all[d.roll(len(all))].step(d, some)
		for _, b := range all {
			b.hold("a", "ab", "b", "")
		}
	}
	if s := store.New(); s.Puts() != 0 || len(s.Ever()) > 0 {
		t.Error("a new one has something")
	}
}
