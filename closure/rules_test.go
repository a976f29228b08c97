package closure_test

import (
	"slices"
	"testing"

	"letterlock/api"
	"letterlock/closure"
	"letterlock/term"
)

// P3: what is handed in, and what lies behind its length, stays as it was; what is answered is new.
func TestListsAreTheirOwn(t *testing.T) {
	const a, b = "a\x00", "a\x01\x01"
	back := []string{"s" + a + b, "p" + b + a, a, "behind", "it"}
	before := slices.Clone(back)
	held := back[:3]
	one, _ := closure.Apart(held)
	two, _ := closure.Apart(held)
	want := slices.Clone(one)
	for i := range one {
		one[i] = "changed"
	}
	_ = append(one[:0], "more")
	closure.Derives(held, b)
	three, _ := closure.Apart(held)
	if !slices.Equal(back, before) || !slices.Equal(two, want) || !slices.Equal(three, want) {
		t.Errorf("%q, %q, %q", back, two, three)
	}
	held[2] = b
	if !slices.Equal(two, want) {
		t.Errorf("%q", two)
	}
}

// P4: the same is answered of the same terms, in whatever order they are held, and however often.
func TestOrderOfHeldIsNothing(t *testing.T) {
	d := &dice{6}
	for range 500 {
		held, x := texts(d.some(12)), d.any(3).s
		l, _ := closure.Apart(held)
		ok, _ := closure.Derives(held, x)
		for range 4 {
			for i := range held {
				j := d.roll(i + 1)
				held[i], held[j] = held[j], held[i]
			}
			twice := append(slices.Clone(held), held...)
			if m, e := closure.Apart(twice); !slices.Equal(l, m) || e != api.OK {
				t.Errorf("%q: %q, %q", held, l, m)
			}
			if now, e := closure.Derives(twice, x); now != ok || e != api.OK {
				t.Errorf("%q of %q: %v, %v", x, held, ok, now)
			}
		}
	}
}

// P4: Derives leaves nothing behind that a later call would tell.
func TestCallsDoNotMix(t *testing.T) {
	const a, b = "a\x00", "a\x01\x01"
	closure.Derives([]string{a, b}, "s"+a+b)
	closure.Apart([]string{a, b})
	if ok, _ := closure.Derives(nil, a); ok {
		t.Error("an atom of an earlier call can be told")
	}
	if l, _ := closure.Apart([]string{"s" + a + b}); len(l) != 1 {
		t.Errorf("%q", l)
	}
}

// rowOfLocks are terms of that many, each of pairs of that many atoms, of which each is closed with
// the next one, and the last atom: the row of keys leads through all that is held, from its end.
func rowOfLocks(many, each int, close func(key, x string) string) []string {
	var n uint64 = 1 << 16
	var tree func(leaves int) string
	tree = func(leaves int) string {
		if leaves == 1 {
			n++
			return close(term.OfAtom(n), term.OfAtom(n-1))
		}
		s, _ := term.OfPair(tree(leaves/2), tree(leaves-leaves/2))
		return s
	}
	var held []string
	for range many {
		held = append(held, tree(each))
	}
	return append(held, term.OfAtom(n))
}

// P1: a long row of keys is followed to its end, and not round by round.
func TestLongRowOfKeys(t *testing.T) {
	closers := []func(key, x string) string{
		func(key, x string) string { s, _ := term.Seal(key, x); return s },
		func(key, x string) string { u, _ := term.OfPublic(key); s, _ := term.Box(u, x); return s },
		func(key, x string) string { h, _ := term.OfHash(key); s, _ := term.Seal(h, x); return s },
	}
	const many, each = closure.MaxHeld - 1, 120
	for i, close := range closers {
		held := rowOfLocks(many, each, close)
		l, e := closure.Apart(held)
		if want := many*(2*each+each-1) + 1; e != api.OK || len(l) != want { // atoms, locks, pairs, and the first key
			t.Errorf("%d: %d, not %d, %v", i, len(l), want, e)
		}
		if ok, e := closure.Derives(held, term.OfAtom(1<<16)); !ok || e != api.OK {
			t.Errorf("%d: the last one is not told: %v", i, e)
		}
		if ok, e := closure.Derives(held[:len(held)-1], term.OfAtom(1<<16)); ok || e != api.OK {
			t.Errorf("%d: the last one is told without the first key: %v", i, e)
		}
	}
}

// P1: terms that are as long and as deep as can be, and all different, come to an end.
func TestGreatestHeld(t *testing.T) {
	var n uint64 = 1 << 16
	var tree func(leaves int) string
	tree = func(leaves int) string {
		if leaves == 1 {
			n++
			return term.OfAtom(n)
		}
		s, _ := term.OfPair(tree(leaves/2), tree(leaves-leaves/2))
		return s
	}
	var held []string
	for range closure.MaxHeld {
		s := tree(650)
		for range 29 {
			s, _ = term.OfPair("a\x00", s)
		}
		held = append(held, s)
	}
	l, e := closure.Apart(held)
	if want := closure.MaxHeld*(2*650-1+29) + 1; len(l) != want || e != api.OK || !slices.IsSorted(l) {
		t.Errorf("%d, not %d, %v", len(l), want, e)
	}
}
