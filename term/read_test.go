package term_test

import (
	"strings"
	"testing"

	"letterlock/api"
	"letterlock/term"
)

// texts are the bytes of samples.
func texts(l []sample) []string {
	var out []string
	for _, x := range l {
		out = append(out, x.s)
	}
	return out
}

// same tells whether two lists of texts are so; one of nothing may be nil or empty.
func same(a, b []string) bool {
	if len(a) != len(b) {
		return false
	}
	for i := range a {
		if a[i] != b[i] {
			return false
		}
	}
	return true
}

// asked holds all that Kind, Parts, Number and Words answer of x against what they ought to.
func asked(t *testing.T, x sample) {
	t.Helper()
	kind, e := byte(0), api.ErrArg
	number, words := api.ErrArg, api.ErrArg
	if x.right() {
		kind, e, number, words = x.s[0], api.OK, api.ErrForm, api.ErrForm
	}
	if x.is('a') {
		number = api.OK
	}
	if x.is('t') {
		words = api.OK
	}
	if got := term.Kind(x.s); got != kind {
		t.Errorf("Kind(%.60q) = %q", x.s, got)
	}
	if l, f := term.Parts(x.s); f != e || !same(l, texts(x.parts)) {
		t.Errorf("Parts(%.60q) = %.60q, %v", x.s, l, f)
	}
	if n, f := term.Number(x.s); n != x.number || f != number {
		t.Errorf("Number(%.60q) = %d, %v", x.s, n, f)
	}
	if w, f := term.Words(x.s); w != x.words || f != words {
		t.Errorf("Words(%.60q) = %.60q, %v", x.s, w, f)
	}
}

// C2: Kind, Parts, Number and Words of each sample.
func TestAskedOfTerms(t *testing.T) {
	for _, x := range handedIn() {
		asked(t, x)
	}
}

// C2: Read, Kind, Parts, Number and Words of all short texts.
func TestReadOfEachText(t *testing.T) {
	eachText(func(s string) {
		got, rest, e := term.Read(s)
		if x, behind, f := oughtRead(s); got != x.s || rest != behind || e != f {
			t.Errorf("Read(%q) = %q, %q, %v", s, got, rest, e)
		}
		asked(t, parse(s))
	})
}

// C2: a right term is read with whatever stands behind it.
func TestReadWithBytesBehind(t *testing.T) {
	for _, x := range handedIn() {
		if !x.right() {
			continue
		}
		for _, behind := range []string{"", "\x00", "x", "a\x00", x.s, strings.Repeat("p", 5000)} {
			if got, rest, e := term.Read(x.s + behind); got != x.s || rest != behind || e != api.OK {
				t.Errorf("Read(%.60q, %d behind) = %.60q, %.60q, %v", x.s, len(behind), got, rest, e)
			}
		}
	}
}

// C2: what is cut short, at each place, begins with no term, and is none.
func TestReadOfACutTerm(t *testing.T) {
	for _, x := range smallTerms() {
		for long := range len(x.s) {
			if got, rest, e := term.Read(x.s[:long]); got != "" || rest != "" || e != api.ErrForm {
				t.Errorf("Read(%q) = %q, %q, %v", x.s[:long], got, rest, e)
			}
			asked(t, wrong(x.s[:long]))
		}
		for _, behind := range []string{"\x00", "x", "a\x00", x.s} {
			asked(t, wrong(x.s+behind))
		}
	}
}

// C2: what begins with a term that is too deep, or too long, begins with no right one.
func TestReadOfTooGreat(t *testing.T) {
	for _, x := range greatTerms() {
		if x.right() {
			continue
		}
		for _, behind := range []string{"", "x", "a\x00"} {
			if got, rest, e := term.Read(x.s + behind); got != "" || rest != "" || e != api.ErrForm {
				t.Errorf("Read(%.60q, %d bytes, %d behind) = %.60q, %d, %v", x.s, len(x.s), len(behind), got, len(rest), e)
			}
		}
	}
}

// C2: the bounds, written out: a depth of 40 and 4000 bytes are right, one more of either is not.
func TestBoundsOfWhatIsRead(t *testing.T) {
	for _, c := range []struct {
		s     string
		right bool
	}{
		{strings.Repeat("h", 39) + "a\x00", true},
		{strings.Repeat("h", 40) + "a\x00", false},
		{strings.Repeat("p", 39) + "a\x00" + strings.Repeat("a\x00", 39), true},
		{strings.Repeat("p", 40) + "a\x00" + strings.Repeat("a\x00", 40), false},
		{strings.Repeat("pa\x00", 39) + "a\x00", true},
		{strings.Repeat("pa\x00", 40) + "a\x00", false},
		{"t\x02\x0f\x9c" + strings.Repeat("w", 3996), true},
		{"t\x02\x0f\x9d" + strings.Repeat("w", 3997), false},
		{"ht\x02\x0f\x9b" + strings.Repeat("w", 3995), true},
		{"ht\x02\x0f\x9c" + strings.Repeat("w", 3996), false},
	} {
		got, rest, e := term.Read(c.s + "behind")
		if c.right && (got != c.s || rest != "behind" || e != api.OK) || !c.right && (got != "" || rest != "" || e != api.ErrForm) {
			t.Errorf("Read(%.60q) = %.60q, %q, %v", c.s, got, rest, e)
		}
		if (term.Kind(c.s) == c.s[0]) != c.right {
			t.Errorf("Kind(%.60q) = %q", c.s, term.Kind(c.s))
		}
	}
}

// branchy is a term of pairs that has many atoms, of which the first long ones have a byte more.
func branchy(many, long int) sample {
	var level []sample
	for i := range many {
		level = append(level, atomOf(uint64(min(max(long-i, 0), 1))))
	}
	for len(level) > 1 {
		var next []sample
		for i := 0; i+1 < len(level); i += 2 {
			next = append(next, termOf('p', level[i], level[i+1]))
		}
		if len(level)%2 == 1 {
			next = append(next, level[len(level)-1])
		}
		level = next
	}
	return level[0]
}

// C2: terms of many small parts, next to the bound of bytes.
func TestReadOfManyParts(t *testing.T) {
	for long, bytes := range []int{3998, 3999, 4000, 4001, 4002} { // 1333 atoms of two bytes or three, and a pair less
		x := branchy(1333, long)
		if len(x.s) != bytes || x.right() != (bytes <= mostBytes) {
			t.Fatalf("%d bytes, depth %d", len(x.s), x.depth)
		}
		asked(t, x)
		want, behind, e := x.s, "x", api.OK
		if !x.right() {
			want, behind, e = "", "", api.ErrForm
		}
		if got, rest, f := term.Read(x.s + "x"); got != want || rest != behind || f != e {
			t.Errorf("%d bytes: %d, %q, %v", bytes, len(got), rest, f)
		}
	}
}
