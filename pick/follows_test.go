package pick_test

import (
	"strconv"
	"strings"
	"testing"

	"letterlock/api"
	"letterlock/pick"
	"letterlock/store"
)

// M1, M2: whatever was done with a store, one behind the other, all answers are as they ought to be.
func TestEachStepOfManyWays(t *testing.T) {
	some := []string{"a", "b", "ab"}
	asked := append(some, "", "none")
	for seed := range uint64(12) {
		b, d := newBoth(t), &dice{seed}
		for range 40 {
			b.some(d, some)
			b.hold(asked, choices(asked[d.roll(len(asked))]))
		}
	}
}

// M3: an honest choice never lies, of any key, and whatever else is picked.
func TestHonestNeverLies(t *testing.T) {
	b, d := newBoth(t), &dice{30}
	asked := append(append(keys(), "none"), strange()...)
	for range 200 {
		b.some(d, keys())
		for _, key := range asked {
			c := pick.Choice{Kind: pick.Honest, Back: d.roll(7) - 3, Key: asked[d.roll(len(asked))], Bytes: strconv.Itoa(d.roll(5))}
			if pick.Lies(b.s, key, c) || pick.Lies(nil, key, c) || pick.Lies(b.s, key, pick.Choice{Kind: pick.Honest}) {
				t.Fatalf("%s lies of %s", tell(c), show(key))
			}
			blob, e := pick.Get(b.s, key, c)
			there, thereError := b.s.Get(key)
			if blob != there || e != thereError {
				t.Fatalf("%s of %s: %q, %v", tell(c), show(key), blob, e)
			}
		}
	}
}

// M2, M3: what lies tells another thing than what is honest, and what does not lie the same.
func TestWhatLies(t *testing.T) {
	b, d := newBoth(t), &dice{31}
	for range 40 {
		b.some(d, []string{"a", "b"})
		for _, key := range []string{"a", "b", "none", ""} {
			there, thereError := b.s.Get(key)
			for _, c := range choices("b") {
				blob, e := pick.Get(b.s, key, c)
				if pick.Lies(b.s, key, c) != (blob != there || e != thereError) {
					t.Fatalf("%s of %s: %q, %v, and there is %q, %v", tell(c), show(key), blob, e, there, thereError)
				}
			}
		}
	}
}

// M3: each version can be answered that ever was, of each key, in as many as a store takes.
func TestEachVersionThatEverWas(t *testing.T) {
	b, d := newBoth(t), &dice{32}
	for i := range 2000 {
		key := keys()[d.roll(len(keys()))]
		b.put(key, strconv.Itoa(i))
		if d.roll(3) == 0 {
			b.delete(key)
		}
	}
	told := 0
	for _, key := range b.s.Ever() {
		all := b.s.Versions(key)
		for i, want := range all {
			if blob, e := pick.Get(b.s, key, pick.Choice{Kind: pick.Stale, Back: len(all) - 1 - i}); blob != want || e != api.OK {
				t.Fatalf("%s: version %d of %d: %q, %v", show(key), i, len(all), blob, e)
			}
			told++
		}
		if _, e := pick.Get(b.s, key, pick.Choice{Kind: pick.Stale, Back: len(all)}); e != api.ErrNone {
			t.Errorf("%s: ahead of the first one: %v", show(key), e)
		}
	}
	if told != 2000 {
		t.Errorf("%d versions", told)
	}
}

// M3: at one key alone, too; and the greatest blobs.
func TestGreatVersions(t *testing.T) {
	s := store.New()
	for i := range 2000 {
		s.Put("a", strings.Repeat("x", 40000-i))
	}
	for back := range 2000 {
		if blob, e := pick.Get(s, "a", pick.Choice{Kind: pick.Stale, Back: back}); len(blob) != 38001+back || e != api.OK {
			t.Fatalf("%d back: %d bytes, %v", back, len(blob), e)
		}
	}
}
