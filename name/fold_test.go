package name_test

import (
	"strings"
	"testing"

	"letterlock/name"
)

// A2: Fold, of each rune, alone and among others.
func TestFoldOfEachRune(t *testing.T) {
	for r := int32(0); r <= 0x10FFFF; r++ {
		if !canStand(r) {
			continue
		}
		s, want := encode(r), encode(r)
		if within(greatSpans, r) {
			want = encode(r + 32)
		}
		if got := name.Fold(s); got != want {
			t.Errorf("Fold(%#x) = %q", r, got)
		}
		if got := name.Fold("Q" + s + "\xff"); got != "q"+want+"-" {
			t.Errorf("Fold(Q, %#x, 0xFF) = %q", r, got)
		}
	}
}

// A2: bytes that are no part of a rune.
func TestFoldOfEachText(t *testing.T) {
	eachText(func(s string) {
		if got := name.Fold(s); got != oughtFold(s) {
			t.Errorf("Fold(%q) = %q", s, got)
		}
	})
}

// A2: each broken byte is one -, and the rune 0xFFFD, which is none, stays.
func TestFoldOfTexts(t *testing.T) {
	for s, want := range map[string]string{
		"":                                  "",
		"Anna":                              "anna",
		"ANNA/Notes 9":                      "anna/notes 9",
		"\u00D6\u00D7\u00DE\u00DF":          "\u00F6\u00D7\u00FE\u00DF",
		"\u03A1\u03A2\u03A3\u03AA":          "\u03C1\u03A2\u03C3\u03AA",
		"\u040F\u0410\u042F\u0450":          "\u040F\u0430\u044F\u0450",
		"\uFFFD":                            "\uFFFD",
		"\uFFFD\xEF\xBF\uFFFD":              "\uFFFD--\uFFFD",
		"\xEF\xBF":                          "--",
		"\xF0\x9F\x98A":                     "---a",
		"\xF0\x9F\x98\x80":                  "\U0001F600",
		"\xF4\x90\x80\x80":                  "----",
		"\xC0\x80\x80":                      "---",
		"\xC3\xC3\x84":                      "-\u00E4",
		strings.Repeat("\xC3\x84\x84", 999): strings.Repeat("\u00E4-", 999),
	} {
		if got := name.Fold(s); got != want {
			t.Errorf("Fold(%q) = %q", s, got)
		}
	}
}

// A2: what is folded is valid, and is folded to itself.
func TestFoldTwice(t *testing.T) {
	eachText(func(s string) {
		once := name.Fold(s)
		if _, valid := oughtRunes(once); !valid || name.Fold(once) != once {
			t.Errorf("Fold(%q) = %q", s, once)
		}
	})
}
