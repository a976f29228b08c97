package store_test

import (
	"slices"
	"strconv"
	"strings"
	"testing"

	"letterlock/api"
)

// step does one thing, or tries to, with one of those keys.
func (b *both) step(d *dice, keys []string) {
	b.t.Helper()
	key := keys[d.roll(len(keys))]
	switch d.roll(12) {
	case 0, 1, 2:
		b.delete(key)
	case 3:
		b.put("", "x")
	case 4:
		b.put(key, strings.Repeat("x", 40001))
	case 5:
		b.put(key, "")
	default:
		b.put(key, strconv.Itoa(d.roll(40)))
	}
}

// L1, L2: whatever is done, one behind the other, all answers are as they ought to be, after each step.
func TestEachStepOfManyWays(t *testing.T) {
	some := textsOf("ab", 2)[1:]
	for seed := range uint64(60) {
		b, d := newBoth(t), &dice{seed}
		for range 150 {
			b.step(d, some)
			b.hold(append(some, "", "aaa")...)
		}
	}
}

// L1, L2: a way that is longer than what may be put.
func TestLongWay(t *testing.T) {
	b, d := newBoth(t), &dice{77}
	some := keys()
	for i := range 5000 {
		b.step(d, some)
		if i%500 == 0 || b.o.puts() > 1990 && i%40 == 0 {
			b.hold(append(some, "")...)
		}
	}
	b.hold(append(some, "")...)
	if b.s.Puts() != 2000 {
		t.Errorf("%d puts", b.s.Puts())
	}
}

// L3: what was put last, and not deleted behind it, is there, and is the last one of its versions; all
// else is not there. (By the answers alone, and what was done last.)
func TestLastOneIsThere(t *testing.T) {
	for seed := range uint64(40) {
		b, d := newBoth(t), &dice{seed + 1000}
		last := map[string]string{}
		for i := range 300 {
			key, blob := keys()[d.roll(len(keys()))], strconv.Itoa(i)
			if d.roll(3) > 0 {
				b.put(key, blob)
				last[key] = blob
			} else if b.delete(key) == api.OK {
				delete(last, key)
			}
			l := b.s.Versions(key)
			got, e := b.s.Get(key)
			want, there := last[key]
			if there != (e == api.OK) || got != want || there && l[len(l)-1] != want {
				t.Fatalf("%q: %q, %v, not %q, %v", key, got, e, want, there)
			}
			if slices.Contains(b.s.List(key), key) != there || len(b.s.List("")) != len(last) {
				t.Fatalf("%q: it is there: %v, but %q", key, there, b.s.List(key))
			}
		}
	}
}

// L3: versions only grow: what was ever told of them is told again, at the same place.
func TestVersionsOnlyGrow(t *testing.T) {
	b, d := newBoth(t), &dice{9}
	some := textsOf("ab", 1)[1:]
	before := map[string][]string{}
	for range 1500 {
		b.step(d, some)
		for _, key := range some {
			l := b.s.Versions(key)
			if len(l) < len(before[key]) || len(l) > len(before[key])+1 || !slices.Equal(l[:len(before[key])], before[key]) {
				t.Fatalf("%q: %q behind %q", key, l, before[key])
			}
			before[key] = l
		}
	}
}
