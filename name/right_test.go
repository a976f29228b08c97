package name_test

import (
	"slices"
	"strings"
	"testing"

	"letterlock/api"
	"letterlock/name"
)

// A1: Right, over each number from ahead of the first rune to behind the last one.
func TestRightOfEachRune(t *testing.T) {
	for r := int32(0); r <= 0x10FFFF; r++ {
		if !canStand(r) {
			continue
		}
		s, want := encode(r), within(nameSpans, r)
		if got := name.Right(s); got != want {
			t.Errorf("Right(%#x) = %v", r, got)
		}
		if got := name.Right("a" + s + "-"); got != want {
			t.Errorf("Right(a, %#x, -) = %v", r, got)
		}
	}
}

// A1: a name has 1 to 32 runes, of one byte or of two.
func TestRightByLength(t *testing.T) {
	for _, one := range []string{"a", "9", "-", "\u00DF", "\u00FF", "\u03B1", "\u044F"} {
		for many := 0; many <= 70; many++ {
			if got, want := name.Right(strings.Repeat(one, many)), many >= 1 && many <= 32; got != want {
				t.Errorf("Right(%d times %q) = %v", many, one, got)
			}
		}
	}
	if name.Right(strings.Repeat("a", 32)+"\xff") || name.Right(strings.Repeat("a", 1<<20)) {
		t.Error("too long a text is a name")
	}
}

// A1: Right and Runes of texts that are not valid, each form of that.
func TestRightAndRunesOfEachText(t *testing.T) {
	eachText(func(s string) {
		if got := name.Right(s); got != oughtRight(s) {
			t.Errorf("Right(%q) = %v", s, got)
		}
		want, valid := oughtRunes(s)
		l, e := name.Runes(s)
		if !slices.Equal(l, want) || valid != (e == api.OK) || !valid && e != api.ErrForm {
			t.Errorf("Runes(%q) = %v, %v", s, l, e)
		}
	})
}

// A1: what is not valid at the end of much that is.
func TestRunesOfLongTexts(t *testing.T) {
	long := strings.Repeat("a\u00E4\u20AC\U0001F600\uFFFD", 1000)
	l, e := name.Runes(long)
	want, _ := oughtRunes(long)
	if !slices.Equal(l, want) || len(l) != 5000 || e != api.OK {
		t.Error(len(l), e)
	}
	for _, end := range []string{"\x80", "\xC3", "\xE2\x82", "\xF0\x9F\x98", "\xC0\x80", "\xE0\x9F\xBF", "\xF0\x8F\xBF\xBF", "\xED\xA0\x80", "\xED\xBF\xBF", "\xF4\x90\x80\x80", "\xF8\x88\x80\x80\x80", "\xEF\xBF", "\xEF\xBF\xBD\xBD"} {
		if l, e := name.Runes(long + end); len(l) != 0 || e != api.ErrForm {
			t.Errorf("%q: %d runes, %v", end, len(l), e)
		}
	}
}

// A1: Make, of each number that a rune can be or is next to one.
func TestMakeOfEachNumber(t *testing.T) {
	for r := int32(-2); r <= 0x110001; r++ {
		want, wrong := "", api.ErrArg
		if canStand(r) {
			want, wrong = encode(r), api.OK
		}
		if s, e := name.Make([]int32{r}); s != want || e != wrong {
			t.Errorf("Make(%#x) = %q, %v", r, s, e)
		}
	}
}

// A1: a number that is no rune, wherever it stands.
func TestMakeOfRows(t *testing.T) {
	if s, e := name.Make([]int32{}); s != "" || e != api.OK {
		t.Error(s, e)
	}
	if s, e := name.Make([]int32{'A', 0, 0xE4, 0xFFFD, 0x10FFFF}); s != "A\x00\u00E4\uFFFD\U0010FFFF" || e != api.OK {
		t.Errorf("%q %v", s, e)
	}
	for _, r := range []int32{-1 << 31, -1, 0xD800, 0xDBFF, 0xDC00, 0xDFFF, 0x110000, 1<<31 - 1} {
		for at := range 3 {
			l := []int32{'a', 'b', 'c'}
			l[at] = r
			if s, e := name.Make(l); s != "" || e != api.ErrArg {
				t.Errorf("Make(%v) = %q, %v", l, s, e)
			}
		}
	}
}
