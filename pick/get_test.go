package pick_test

import (
	"math"
	"slices"
	"strconv"
	"strings"
	"testing"

	"letterlock/api"
	"letterlock/pick"
	"letterlock/store"
)

// M1: the kinds are those of the words.
func TestKinds(t *testing.T) {
	if l := string([]byte{pick.Honest, pick.Stale, pick.Gone, pick.Other, pick.Made}); l != "hsdxb" {
		t.Error(l)
	}
}

// M1: some answers, written out: of a key that is there, of one that is deleted, of one that never was.
func TestSomeAnswers(t *testing.T) {
	s := store.New()
	for _, l := range [][2]string{{"a", "one"}, {"gone", "was"}, {"a", "two"}, {"b", "other"}, {"gone", ""}, {"a", "three"}} {
		s.Put(l[0], l[1])
	}
	s.Delete("gone")
	for _, c := range []struct {
		c                pick.Choice
		a, gone, none    string
		ea, egone, enone api.Errno
	}{
		{pick.Choice{}, "three", "", "", api.OK, api.ErrNone, api.ErrNone},
		{pick.Choice{Kind: pick.Honest}, "three", "", "", api.OK, api.ErrNone, api.ErrNone},
		{pick.Choice{Kind: pick.Honest, Back: 1, Key: "b", Bytes: "x"}, "three", "", "", api.OK, api.ErrNone, api.ErrNone},
		{pick.Choice{Kind: pick.Stale}, "three", "", "", api.OK, api.OK, api.ErrNone},
		{pick.Choice{Kind: pick.Stale, Back: 1}, "two", "was", "", api.OK, api.OK, api.ErrNone},
		{pick.Choice{Kind: pick.Stale, Back: 2}, "one", "", "", api.OK, api.ErrNone, api.ErrNone},
		{pick.Choice{Kind: pick.Stale, Back: 2, Key: "b", Bytes: "x"}, "one", "", "", api.OK, api.ErrNone, api.ErrNone},
		{pick.Choice{Kind: pick.Stale, Back: 3}, "", "", "", api.ErrNone, api.ErrNone, api.ErrNone},
		{pick.Choice{Kind: pick.Stale, Back: -1}, "", "", "", api.ErrNone, api.ErrNone, api.ErrNone},
		{pick.Choice{Kind: pick.Gone}, "", "", "", api.ErrNone, api.ErrNone, api.ErrNone},
		{pick.Choice{Kind: pick.Gone, Back: 1, Key: "b", Bytes: "x"}, "", "", "", api.ErrNone, api.ErrNone, api.ErrNone},
		{pick.Choice{Kind: pick.Other, Key: "b"}, "other", "other", "other", api.OK, api.OK, api.OK},
		{pick.Choice{Kind: pick.Other, Key: "a", Back: 1, Bytes: "x"}, "three", "three", "three", api.OK, api.OK, api.OK},
		{pick.Choice{Kind: pick.Other, Key: "gone"}, "", "", "", api.ErrNone, api.ErrNone, api.ErrNone},
		{pick.Choice{Kind: pick.Other}, "", "", "", api.ErrNone, api.ErrNone, api.ErrNone},
		{pick.Choice{Kind: pick.Made, Bytes: "x"}, "x", "x", "x", api.OK, api.OK, api.OK},
		{pick.Choice{Kind: pick.Made, Bytes: "x", Back: 1, Key: "b"}, "x", "x", "x", api.OK, api.OK, api.OK},
		{pick.Choice{Kind: pick.Made}, "", "", "", api.OK, api.OK, api.OK},
	} {
		for key, want := range map[string]struct {
			blob string
			e    api.Errno
		}{"a": {c.a, c.ea}, "gone": {c.gone, c.egone}, "none": {c.none, c.enone}} {
			if blob, e := pick.Get(s, key, c.c); blob != want.blob || e != want.e {
				t.Errorf("Get(%q, %s): %q, %v, not %q, %v", key, tell(c.c), blob, e, want.blob, want.e)
			}
		}
	}
}

// M1: what is honest, and all other kinds than the four that are told of, answer what is there, whatever
// else is picked.
func TestHonestKinds(t *testing.T) {
	b := newBoth(t)
	b.put("a", "old")
	b.put("a", "new")
	b.put("b", "other")
	b.put("gone", "x")
	b.delete("gone")
	if len(honest()) != 252 || !slices.Contains(honest(), 'h') {
		t.Fatalf("%q", honest())
	}
	for _, k := range honest() {
		for _, c := range []pick.Choice{{Kind: k}, {Kind: k, Back: 1}, {Kind: k, Key: "b"}, {Kind: k, Bytes: "x"}, {Kind: k, Bytes: strings.Repeat("x", 40001)}, {k, -1, "a", ""}} {
			if blob, e := pick.Get(b.s, "a", c); blob != "new" || e != api.OK {
				t.Errorf("%s: %q, %v", tell(c), blob, e)
			}
			if blob, e := pick.Get(b.s, "gone", c); blob != "" || e != api.ErrNone {
				t.Errorf("%s: %q, %v of what is gone", tell(c), blob, e)
			}
			b.hold(append([]string{"a", "b", "gone", "none"}, strange()...), []pick.Choice{c})
		}
	}
}

// M1: each version is as many steps ahead of the last one; there is none behind that, and none ahead of the
// first one; whether the key is there is nothing to it.
func TestEachStep(t *testing.T) {
	for many := range 12 {
		for _, deleted := range []bool{false, true} {
			s := store.New()
			for i := range many {
				s.Put("b", "other")
				s.Put("a", strconv.Itoa(i))
				s.Put("aa", "longer")
			}
			if deleted {
				s.Delete("a")
			}
			for back := -20; back < 20; back++ {
				want, wantError := "", api.ErrNone
				if back >= 0 && back < many {
					want, wantError = strconv.Itoa(many-1-back), api.OK
				}
				if blob, e := pick.Get(s, "a", pick.Choice{Kind: pick.Stale, Back: back}); blob != want || e != wantError {
					t.Errorf("%d back of %d: %q, %v", back, many, blob, e)
				}
			}
		}
	}
}

// M1: what is put again, or is nothing, is a version, too; what was refused is none.
func TestVersionsThatCount(t *testing.T) {
	s := store.New()
	for _, blob := range []string{"x", "", "x", "x", strings.Repeat("x", 40001), "", "y"} {
		s.Put("a", blob)
		s.Delete("a")
	}
	for back, want := range []string{"y", "", "x", "x", "", "x"} {
		if blob, e := pick.Get(s, "a", pick.Choice{Kind: pick.Stale, Back: back}); blob != want || e != api.OK {
			t.Errorf("%d back: %q, %v", back, blob, e)
		}
	}
	if blob, e := pick.Get(s, "a", pick.Choice{Kind: pick.Stale, Back: 6}); blob != "" || e != api.ErrNone {
		t.Errorf("ahead of the first one: %q, %v", blob, e)
	}
}

// M1, P1, P6: steps beyond all bounds lead nowhere, those whose sums go round, too.
func TestSteps(t *testing.T) {
	for many := range 5 {
		s := store.New()
		for range many {
			s.Put("a", "x")
		}
		for _, back := range []int{math.MinInt, math.MinInt + 1, math.MinInt + many, math.MinInt + many - 1, -1 << 32, -1 << 31, -many - 1, -many, -1, many, many + 1, 1 << 31, 1 << 32, 1<<32 + many, math.MaxInt - many, math.MaxInt - 1, math.MaxInt} {
			if blob, e := pick.Get(s, "a", pick.Choice{Kind: pick.Stale, Back: back}); blob != "" || e != api.ErrNone {
				t.Errorf("%d back of %d: %q, %v", back, many, blob, e)
			}
		}
	}
}

// M1: what is there at another key is answered at each key, and nothing where nothing is there.
func TestEachOther(t *testing.T) {
	b := newBoth(t)
	for i, key := range keys() {
		b.put(key, "old")
		b.put(key, "of "+key)
		if i%3 == 0 {
			b.delete(key)
		}
	}
	for _, from := range append(keys(), strange()...) {
		for _, key := range append(append(keys(), "none"), strange()...) {
			blob, e := pick.Get(b.s, from, pick.Choice{Kind: pick.Other, Key: key})
			there, thereError := b.s.Get(key)
			if blob != there || e != thereError {
				t.Errorf("%s for %s: %q, %v", show(key), show(from), blob, e)
			}
		}
	}
}

// M1: what is made up is answered as it is, up to 40000 bytes.
func TestMade(t *testing.T) {
	s := store.New()
	s.Put("a", "there")
	for _, long := range []int{0, 1, 2, 64, 65, 200, 201, 4000, 4001, 39999, 40000, 40001, 40002, 65536, 80000, 1 << 24} {
		bytes := strings.Repeat("\xff", long)
		want, wantError := bytes, api.OK
		if long > 40000 {
			want, wantError = "", api.ErrBig
		}
		for _, key := range append([]string{"a", "none"}, strange()...) {
			for _, from := range []*store.Store{s, nil} {
				if blob, e := pick.Get(from, key, pick.Choice{Kind: pick.Made, Bytes: bytes}); blob != want || e != wantError {
					t.Errorf("%d bytes at %s: %d, %v", long, show(key), len(blob), e)
				}
			}
		}
	}
	for _, bytes := range textsOf("\x00a\xe4\xff", 4) {
		if blob, e := pick.Get(s, "a", pick.Choice{Kind: pick.Made, Bytes: bytes}); blob != bytes || e != api.OK {
			t.Errorf("%q: %q, %v", bytes, blob, e)
		}
	}
}

// M1: a store that is nil has nothing, whatever is picked; what is made up needs none.
func TestNilStore(t *testing.T) {
	for _, key := range append(keys(), strange()...) {
		for _, k := range kinds() {
			for _, c := range []pick.Choice{{Kind: k}, {Kind: k, Key: key}, {Kind: k, Back: 1}, {Kind: k, Bytes: "x"}} {
				want, wantError := "", api.ErrNone
				if k == 'b' {
					want, wantError = c.Bytes, api.OK
				}
				if blob, e := pick.Get(nil, key, c); blob != want || e != wantError {
					t.Errorf("Get(nil, %s, %s): %q, %v", show(key), tell(c), blob, e)
				}
				if l := pick.List(nil, key, c); len(l) > 0 {
					t.Errorf("List(nil, %s, %s): %q", show(key), tell(c), l)
				}
				if pick.Lies(nil, key, c) != (k == 'b') {
					t.Errorf("Lies(nil, %s, %s)", show(key), tell(c))
				}
			}
		}
	}
}

// textsOf are all texts of up to that many of those bytes.
func textsOf(bytes string, most int) []string {
	l := []string{""}
	for from := 0; most > 0; most-- {
		end := len(l)
		for _, s := range l[from:end] {
			for i := range len(bytes) {
				l = append(l, s+bytes[i:i+1])
			}
		}
		from = end
	}
	return l
}
