package regress_test

import (
	"strings"

	"letterlock/api"
)

// The chapter's words, once more and from them alone, for the tests to hold the package against:
// how great a hash would be is reckoned ahead, and all hashes are put on at once.

// The bounds that the chapters name.
const (
	mostBytes = 4000
	mostDepth = 40
	lastEpoch = 7
	someKey   = "t\x01\x03key"
)

// sample is what may be handed in: a right term, or (of depth 0) what is none.
type sample struct {
	s     string
	depth int
}

func (x sample) right() bool { return x.depth > 0 }

// room is how many hashes may be put on a right term.
func (x sample) room() int { return min(mostBytes-len(x.s), mostDepth-x.depth) }

func oughtState(root sample, epoch int) (string, api.Errno) {
	switch {
	case !root.right():
		return "", api.ErrArg
	case epoch < 0 || epoch > lastEpoch:
		return "", api.ErrChain
	case lastEpoch-epoch > root.room():
		return "", api.ErrBig
	}
	return strings.Repeat("h", lastEpoch-epoch) + root.s, api.OK
}

func oughtBack(state sample, steps int) (string, api.Errno) {
	switch {
	case !state.right() || steps < 0:
		return "", api.ErrArg
	case steps > state.room():
		return "", api.ErrBig
	}
	return strings.Repeat("h", steps) + state.s, api.OK
}

func oughtKey(state sample) (string, api.Errno) {
	if !state.right() {
		return "", api.ErrArg
	}
	s := "hp" + someKey + state.s
	if len(s) > mostBytes || state.depth+2 > mostDepth {
		return "", api.ErrBig
	}
	return s, api.OK
}

// made is the term of a kind that is made of these parts.
func made(kind string, parts ...sample) sample {
	x := sample{kind, 1}
	for _, p := range parts {
		x.s += p.s
		x.depth = max(x.depth, p.depth+1)
	}
	return x
}

// words are a text of more than 255 bytes.
func words(long int) sample {
	return sample{"t\x02" + string([]byte{byte(long >> 8), byte(long)}) + strings.Repeat("x", long), 1}
}

// smallTerms are right terms of each kind.
func smallTerms() []sample {
	a, b, hi := sample{"a\x00", 1}, sample{"a\x02\x01\x05", 1}, sample{"t\x01\x02hi", 1}
	u := made("u", b)
	l := []sample{a, b, hi, u, {"t\x00", 1}, {someKey, 1}, {"a\x08\xff\xff\xff\xff\xff\xff\xff\xff", 1}}
	for _, x := range l[:4] {
		l = append(l, made("h", x), made("u", x), made("h", made("h", x)), made("b", u, x), made("p", sample{someKey, 1}, x))
		for _, y := range l[:4] {
			l = append(l, made("p", x, y), made("s", x, y), made("g", x, y))
		}
	}
	return l
}

// greatTerms are right terms of each depth, by hashes, on the left and on the right, and of each
// length next to the greatest one, flat and as deep as can be.
func greatTerms() []sample {
	a, b := sample{"a\x00", 1}, sample{"a\x01\x07", 1}
	hashes, left, right := a, b, a
	var l []sample
	for range mostDepth {
		l = append(l, hashes, left, right)
		hashes, left, right = made("h", hashes), made("s", left, a), made("p", b, right)
	}
	for long := 3970; long <= 3996; long++ { // with four bytes ahead of these
		text := words(long)
		l = append(l, text)
		for many := 1; many < mostDepth && len(text.s)+many <= mostBytes; many++ {
			l = append(l, sample{strings.Repeat("h", many) + text.s, many + 1})
		}
	}
	return l
}

// wrongOnes are texts that are no right term, whole.
func wrongOnes() []sample {
	var l []sample
	for _, s := range []string{
		"", "x", "a", "h", "p", "t", "a\x00x", "a\x00a\x00", "a\x01", "a\x01\x00", "a\x09", "ha", "hx", "h\x00", "t\x01\x03ke",
		"pa\x00", "pa\x00x", "pxa\x00", "sa\x00", "ga\x00", "ba\x00a\x00", "bha\x00a\x00", "A\x00", " a\x00", "a\x00 ", "\x00", "\xff",
		strings.Repeat("h", 40) + "a\x00", strings.Repeat("h", 41) + "a\x00", strings.Repeat("u", 100) + "a\x00",
		strings.Repeat("h", 39) + "pa\x00a\x00", words(3997).s, "h" + words(3996).s, words(5000).s, words(3996).s + "x",
		strings.Repeat("h", 1<<16), strings.Repeat("p", 1<<16), strings.Repeat("h", 1<<16) + "a\x00",
	} {
		l = append(l, sample{s: s})
	}
	for i := range 256 {
		l = append(l, sample{s: string([]byte{byte(i)})})
	}
	return l
}

// all is all that is handed in.
func all() []sample {
	l := append(smallTerms(), greatTerms()...)
	return append(l, wrongOnes()...)
}
