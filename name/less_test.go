package name_test

import (
	"slices"
	"testing"

	"letterlock/api"
	"letterlock/name"
)

// ahead compares as the chapter says: number by number, the beginning first.
func ahead[N byte | int32](a, b []N) bool {
	for i := range min(len(a), len(b)) {
		if a[i] != b[i] {
			return a[i] < b[i]
		}
	}
	return len(a) < len(b)
}

// A3: each two of texts that differ in length, in signs of bytes, in what is valid.
func TestLessOfTexts(t *testing.T) {
	l := []string{"", "\x00", "\x00\x00", "-", "/", "0", "A", "a", "a\x00", "aa", "ab", "b", "ba", "z", "\x7f", "\x80", "\u00DF", "\u00DF\x00", "\u00FF", "\u03B1", "\uFFFD", "\U00010000", "\xff", "\xffa"}
	for _, a := range l {
		for _, b := range l {
			if got, want := name.Less(a, b), ahead([]byte(a), []byte(b)); got != want {
				t.Errorf("Less(%q, %q) = %v", a, b, got)
			}
		}
	}
	for i := range 256 {
		for j := range 256 {
			a, b := string([]byte{'m', byte(i)}), string([]byte{'m', byte(j)})
			if got := name.Less(a, b); got != (i < j) {
				t.Errorf("Less(%q, %q) = %v", a, b, got)
			}
		}
	}
}

// A5: what is made of runes has those runes, and what is taken apart is made again.
func TestMadeOfRunes(t *testing.T) {
	var all []int32
	for r := int32(0); r <= 0x10FFFF; r++ {
		if canStand(r) {
			all = append(all, r)
		}
	}
	for _, l := range [][]int32{nil, {0}, {0xFFFD}, {0xFFFD, 0xFFFD, 'a'}, {0x7F, 0x80, 0x7FF, 0x800, 0xFFFF, 0x10000}, all} {
		s, e := name.Make(l)
		if e != api.OK {
			t.Fatal(e)
		}
		if got, e := name.Runes(s); !slices.Equal(got, l) || e != api.OK {
			t.Errorf("%d runes of %d, %v", len(got), len(l), e)
		}
	}
	eachText(func(s string) {
		if l, e := name.Runes(s); e == api.OK {
			if again, e := name.Make(l); again != s || e != api.OK {
				t.Errorf("%q is made again as %q, %v", s, again, e)
			}
		}
	})
}

// A5: of names Less is as by their runes.
func TestLessOfNames(t *testing.T) {
	names := []string{}
	for _, p := range nameSpans {
		for _, r := range []int32{p.from, p.to} {
			for _, s := range []string{encode(r), "a" + encode(r), encode(r) + "a", encode(r) + "\u044F"} {
				if !name.Right(s) {
					t.Fatalf("%q is no name", s)
				}
				names = append(names, s)
			}
		}
	}
	for _, a := range names {
		for _, b := range names {
			x, _ := name.Runes(a)
			y, _ := name.Runes(b)
			if got, want := name.Less(a, b), ahead(x, y); got != want {
				t.Errorf("Less(%q, %q) = %v", a, b, got)
			}
		}
	}
}
