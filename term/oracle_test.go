package term_test

import (
	"strings"

	"letterlock/api"
)

// The chapter's words, once more and from them alone, for the tests to hold the package against:
// terms are built up of what they are made of, and what is read is sought among all ways to part it.

// The bounds that the chapter names.
const (
	mostBytes = 4000
	mostDepth = 40
)

// digits are a number's bytes without the first one: the greatest part first, and none for 0.
func digits(n uint64) string {
	if n == 0 {
		return ""
	}
	return digits(n/256) + string([]byte{byte(n % 256)})
}

func oughtNumber(n uint64) string {
	d := digits(n)
	return string([]byte{byte(len(d))}) + d
}

// sample is what may be handed in: a right term and what it is made of, or (of depth 0) what is none.
type sample struct {
	s      string
	depth  int
	number uint64
	words  string
	parts  []sample
}

func (x sample) right() bool { return x.depth > 0 }

func (x sample) is(kind byte) bool { return x.right() && x.s[0] == kind }

// wrong is what is no right term.
func wrong(s string) sample { return sample{s: s} }

// bound makes what is too great a wrong one.
func bound(x sample) sample {
	if len(x.s) > mostBytes || x.depth > mostDepth {
		return wrong(x.s)
	}
	return x
}

func atomOf(n uint64) sample { return sample{s: "a" + oughtNumber(n), depth: 1, number: n} }

func textOf(words string) sample {
	return bound(sample{s: "t" + oughtNumber(uint64(len(words))) + words, depth: 1, words: words})
}

func termOf(kind byte, parts ...sample) sample {
	x := sample{s: string([]byte{kind}), parts: parts}
	for _, p := range parts {
		x.s += p.s
		x.depth = max(x.depth, p.depth+1)
	}
	for _, p := range parts {
		if !p.right() {
			return wrong(x.s)
		}
	}
	if kind == 'b' && !parts[0].is('u') {
		return wrong(x.s)
	}
	return bound(x)
}

// oughtMake is what a call that makes a term of that kind ought to answer.
func oughtMake(kind byte, parts ...sample) (string, api.Errno) {
	for _, p := range parts {
		if !p.right() {
			return "", api.ErrArg
		}
	}
	if kind == 'b' && !parts[0].is('u') {
		return "", api.ErrArg
	}
	if x := termOf(kind, parts...); x.right() {
		return x.s, api.OK
	}
	return "", api.ErrBig
}

func oughtOpen(key, c sample) (string, api.Errno) {
	switch {
	case !key.right() || !c.right():
		return "", api.ErrArg
	case !c.is('s'):
		return "", api.ErrForm
	case c.parts[0].s != key.s:
		return "", api.ErrDenied
	}
	return c.parts[1].s, api.OK
}

func oughtUnbox(secret, c sample) (string, api.Errno) {
	switch {
	case !secret.right() || !c.right():
		return "", api.ErrArg
	case !c.is('b'):
		return "", api.ErrForm
	}
	if public, e := oughtMake('u', secret); e != api.OK || c.parts[0].s != public {
		return "", api.ErrDenied
	}
	return c.parts[1].s, api.OK
}

func oughtVerify(public, a, s sample) api.Errno {
	if !public.right() || !a.right() || !s.right() {
		return api.ErrArg
	}
	if !public.is('u') {
		return api.ErrSig
	}
	if made, e := oughtMake('g', public.parts[0], a); e != api.OK || made != s.s {
		return api.ErrSig
	}
	return api.OK
}

// oughtNumbers are the texts that are a number's bytes as the beginning of s, told by their length and number.
func oughtNumbers(s string, tell func(long int, n uint64)) {
	for long := 1; long <= min(9, len(s)); long++ {
		var n uint64
		for i := 1; i < long; i++ {
			n = n*256 + uint64(s[i])
		}
		if oughtNumber(n) == s[:long] {
			tell(long, n)
		}
	}
}

// parse is all of w as a term, parted in whatever way makes one; wrong, if none does. It takes
// long for long texts.
func parse(w string) sample {
	found := wrong(w)
	if w == "" {
		return found
	}
	kind, rest := w[0], w[1:]
	switch kind {
	case 'a':
		oughtNumbers(rest, func(long int, n uint64) {
			if long == len(rest) {
				found = atomOf(n)
			}
		})
	case 't':
		oughtNumbers(rest, func(long int, n uint64) {
			if n == uint64(len(rest)-long) {
				found = textOf(rest[long:])
			}
		})
	case 'h', 'u':
		found = termOf(kind, parse(rest))
	case 'p', 's', 'b', 'g':
		for long := range len(rest) {
			if first := parse(rest[:long]); first.right() {
				if x := termOf(kind, first, parse(rest[long:])); x.right() {
					found = x
				}
			}
		}
	}
	return found
}

// oughtRead is the term that a short text begins with.
func oughtRead(s string) (sample, string, api.Errno) {
	for long := range len(s) + 1 {
		if x := parse(s[:long]); x.right() {
			return x, s[long:], api.OK
		}
	}
	return sample{}, "", api.ErrForm
}

// eachText tells all texts of up to two bytes, and all of up to five of those bytes of which terms are.
func eachText(tell func(s string)) {
	tell("")
	for i := range 256 {
		tell(string([]byte{byte(i)}))
		for j := range 256 {
			tell(string([]byte{byte(i), byte(j)}))
		}
	}
	var more func(s string, left int)
	more = func(s string, left int) {
		if len(s) > 2 {
			tell(s)
		}
		if left == 0 {
			return
		}
		for _, b := range "atphsubg\x00\x01\x02x" {
			more(s+string(b), left-1)
		}
	}
	more("", 5)
}

const (
	kindsOfOne = "hu"
	kindsOfTwo = "psbg"
)

// smallTerms are right terms of each kind, in many ways of one another.
func smallTerms() []sample {
	a, b, c := atomOf(0), atomOf(5), atomOf(300)
	hi, none := textOf("hi"), textOf("")
	u, v := termOf('u', a), termOf('u', b)
	deep := termOf('u', termOf('p', hi, termOf('h', c)))
	return []sample{
		a, b, c, atomOf(1<<64 - 1), hi, none, textOf("a\x00"), textOf("\xff\x00ha\x01\x05"), u, v, deep,
		termOf('h', a), termOf('h', hi), termOf('h', u), termOf('h', termOf('h', b)), termOf('u', u),
		termOf('p', a, b), termOf('p', b, a), termOf('p', u, hi), termOf('p', termOf('p', a, b), c), termOf('p', a, termOf('p', b, c)),
		termOf('s', a, hi), termOf('s', b, hi), termOf('s', a, none), termOf('s', u, a), termOf('s', hi, hi), termOf('s', termOf('s', a, b), c),
		termOf('b', u, hi), termOf('b', v, hi), termOf('b', u, a), termOf('b', deep, u), termOf('b', u, termOf('b', v, hi)),
		termOf('g', a, hi), termOf('g', b, hi), termOf('g', a, a), termOf('g', u, hi), termOf('g', deep, v), termOf('g', hi, termOf('g', a, hi)),
	}
}

// wrongTerms are none, each in its way, but not by its greatness.
func wrongTerms() []sample {
	l := []sample{}
	for _, s := range []string{
		"", "a", "t", "p", "h", "s", "u", "b", "g", "x", "A\x00", "\x00", "a\x01", "a\x01\x00", "a\x02\x00\x05", "a\x09\x01\x01\x01\x01\x01\x01\x01\x01\x01",
		"t\x01\x02a", "t\x01\x00", "t\x02\x00\x01a", "t\x08\xff\xff\xff\xff\xff\xff\xff\xff", "a\x00a\x00", "a\x00 ", " a\x00", "t\x00\x00", "ha\x00\x00", "ua\x00x", "pa\x00", "pa\x00a\x00a\x00",
		"hx", "ux", "pxa\x00", "pa\x00x", "sa\x00", "ga\x00", "bua\x00", "ba\x00a\x00", "bha\x00a\x00", "bbua\x00a\x00a\x00", "bt\x00a\x00", "hba\x00a\x00", "pa\x00ba\x00a\x00",
	} {
		l = append(l, wrong(s))
	}
	return l
}

// tower is a term of that depth of that kind, which goes deep by its part at that place.
func tower(kind byte, place, depth int) sample {
	other := atomOf(7)
	if kind == 'b' {
		other = termOf('u', other)
	}
	x := atomOf(9)
	if kind == 'b' && place == 0 {
		x = tower('u', 0, depth-1)
	}
	for x.right() && x.depth < depth {
		switch {
		case !strings.ContainsRune(kindsOfTwo, rune(kind)):
			x = termOf(kind, x)
		case place == 0:
			x = termOf(kind, x, other)
		default:
			x = termOf(kind, other, x)
		}
	}
	return x
}

// greatTerms are right ones next to the bounds, and wrong ones just beyond them.
func greatTerms() []sample {
	l := []sample{}
	for depth := mostDepth - 2; depth <= mostDepth+1; depth++ {
		for _, kind := range []byte(kindsOfOne + kindsOfTwo) {
			for place := range 2 {
				l = append(l, tower(kind, place, depth))
			}
		}
	}
	for _, long := range []int{1, 253, 254, 255, 256, 1994, 1995, 3989, 3990, 3991, 3992, 3993, 3994, 3995, 3996, 3997} {
		words := textOf(strings.Repeat("w", long))
		l = append(l, words, termOf('h', words), termOf('u', words), termOf('p', atomOf(0), words), termOf('b', termOf('u', atomOf(0)), words))
	}
	half := textOf(strings.Repeat("w", 1995)) // of 1999 bytes
	return append(l, termOf('p', half, half), termOf('p', termOf('h', half), half), termOf('p', half, termOf('h', half)))
}
