package term_test

import (
	"strings"
	"testing"

	"letterlock/api"
	"letterlock/term"
)

// told is all that the package answers of one text, as a text.
func told(s string) string {
	var b strings.Builder
	say := func(words ...string) { b.WriteString(strings.Join(words, "|") + "\n") }
	tell := func(s string, e api.Errno) { say(s, e.Error()) }
	const nought = "a\x00"
	x, rest, e := term.Read(s)
	say(x, rest, e.Error(), string([]byte{term.Kind(s)}))
	l, e := term.Parts(s)
	say(append(l, e.Error())...)
	n, e := term.Number(s)
	say(term.OfAtom(n), e.Error())
	tell(term.Words(s))
	tell(term.OfText(s))
	tell(term.OfHash(s))
	tell(term.OfPublic(s))
	for _, f := range []func(a, b string) (string, api.Errno){term.OfPair, term.Seal, term.Box, term.Sign, term.Open, term.Unbox} {
		tell(f(s, s))
		tell(f(s, nought))
		tell(f(nought, s))
	}
	say(term.Verify(s, s, s).Error(), term.Verify("u"+nought, s, s).Error(), term.Verify("u"+nought, nought, s).Error(), term.Verify(s, nought, "g"+nought+nought).Error())
	return b.String()
}

// P1, P4: no text makes a call panic, or go on for long, and the same is answered of the same, whatever was asked between.
func TestSameOfTheSame(t *testing.T) {
	l := []string{"", "t\x08\xff\xff\xff\xff\xff\xff\xff\xff", "t\x08\x7f\xff\xff\xff\xff\xff\xff\xff", "t\x04\x7f\xff\xff\xff", "pt\x08\xff\xff\xff\xff\xff\xff\xff\xffa\x00"}
	for _, kind := range "atphsubg\x00\x08\xff" {
		l = append(l, strings.Repeat(string(kind), 3000), strings.Repeat(string(kind), 1<<16), strings.Repeat("p"+string(kind), 1<<16), strings.Repeat(string(kind)+"a\x00", 1<<16))
	}
	for _, x := range handedIn() {
		l = append(l, x.s)
	}
	first := make([]string, len(l))
	for i, s := range l {
		first[i] = told(s)
	}
	for i := len(l) - 1; i >= 0; i-- {
		if told(l[i]) != first[i] {
			t.Errorf("text %d is told of in two ways", i)
		}
	}
}

// P3: Parts answers a new list each time.
func TestPartsAreNew(t *testing.T) {
	for _, x := range smallTerms() {
		one, _ := term.Parts(x.s)
		two, _ := term.Parts(x.s)
		for i := range one {
			one[i] = "changed"
		}
		_ = append(one[:0], "more")
		if three, _ := term.Parts(x.s); !same(two, texts(x.parts)) || !same(three, two) {
			t.Errorf("%q: %q, %q", x.s, two, three)
		}
	}
}

// P6: words are bytes: what is no rune is kept as it is.
func TestWordsAreBytes(t *testing.T) {
	all := make([]byte, 256)
	for i := range all {
		all[i] = byte(i)
	}
	for _, words := range []string{string(all), "\xff\xfe", "\xed\xa0\x80", "\u00e4", "a\x01\x05", "\x00"} {
		x, e := term.OfText(words)
		if got, f := term.Words(x); got != words || e != api.OK || f != api.OK {
			t.Errorf("%q, %v, %v", got, e, f)
		}
	}
}
