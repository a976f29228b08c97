package term_test

import (
	"strings"
	"testing"

	"letterlock/api"
	"letterlock/term"
)

// maker is a call that makes a term, of its first part only, or of both.
type maker struct {
	kind byte
	make func(a, b string) (string, api.Errno)
}

func makersOfOne() []maker {
	return []maker{
		{'h', func(a, _ string) (string, api.Errno) { return term.OfHash(a) }},
		{'u', func(a, _ string) (string, api.Errno) { return term.OfPublic(a) }},
	}
}

func makersOfTwo() []maker {
	return []maker{{'p', term.OfPair}, {'s', term.Seal}, {'b', term.Box}, {'g', term.Sign}}
}

// C1: the kinds are these bytes.
func TestKindsOfTerms(t *testing.T) {
	if got := string([]byte{term.Atom, term.Text, term.Pair, term.Hash, term.Sealed, term.Public, term.Boxed, term.Signed}); got != "atphsubg" {
		t.Errorf("%q", got)
	}
}

// C1: terms that are written out.
func TestSomeTerms(t *testing.T) {
	const five, hi = "a\x01\x05", "t\x01\x02hi"
	for i, c := range []struct {
		make func() (string, api.Errno)
		want string
	}{
		{func() (string, api.Errno) { return term.OfAtom(5), api.OK }, "a\x01\x05"},
		{func() (string, api.Errno) { return term.OfAtom(0), api.OK }, "a\x00"},
		{func() (string, api.Errno) { return term.OfAtom(258), api.OK }, "a\x02\x01\x02"},
		{func() (string, api.Errno) { return term.OfText("hi") }, "t\x01\x02hi"},
		{func() (string, api.Errno) { return term.OfText("") }, "t\x00"},
		{func() (string, api.Errno) { return term.OfPair(five, hi) }, "pa\x01\x05t\x01\x02hi"},
		{func() (string, api.Errno) { return term.OfHash(hi) }, "ht\x01\x02hi"},
		{func() (string, api.Errno) { return term.Seal(five, hi) }, "sa\x01\x05t\x01\x02hi"},
		{func() (string, api.Errno) { return term.OfPublic(five) }, "ua\x01\x05"},
		{func() (string, api.Errno) { return term.Box("u"+five, hi) }, "bua\x01\x05t\x01\x02hi"},
		{func() (string, api.Errno) { return term.Sign(five, hi) }, "ga\x01\x05t\x01\x02hi"},
	} {
		if got, e := c.make(); got != c.want || e != api.OK {
			t.Errorf("%d: %q, %v", i, got, e)
		}
	}
}

// C1: atoms, next to each number at which its bytes become more.
func TestOfAtom(t *testing.T) {
	l := []uint64{0, 1<<64 - 1, 0x0102030405060708, 0xFF00FF00FF00FF00}
	for bit := range 64 {
		n := uint64(1) << bit
		l = append(l, n-1, n, n+1)
	}
	for _, n := range l {
		if got := term.OfAtom(n); got != "a"+oughtNumber(n) {
			t.Errorf("OfAtom(%d) = %q", n, got)
		}
	}
}

// C1: texts of all bytes, and of each length next to which something becomes another.
func TestOfText(t *testing.T) {
	for i := range 256 {
		words := string([]byte{'x', byte(i), 'y'})
		if got, e := term.OfText(words); got != "t\x01\x03"+words || e != api.OK {
			t.Errorf("OfText(%q) = %q, %v", words, got, e)
		}
	}
	for _, long := range []int{0, 1, 2, 254, 255, 256, 257, 3994, 3995, 3996, 3997, 3998, 3999, 4000, 4001, 65535, 65536, 1 << 20} {
		words := strings.Repeat("\xfe\x00a", long)[:long]
		want, e := textOf(words).s, api.OK
		if long > 3996 {
			want, e = "", api.ErrBig
		}
		if got, f := term.OfText(words); got != want || f != e {
			t.Errorf("of %d bytes: %d, %v", long, len(got), f)
		}
	}
}

// handedIn is all kinds of what may be handed in.
func handedIn() []sample {
	l := append(smallTerms(), wrongTerms()...)
	return append(l, greatTerms()...)
}

// C1: OfHash and OfPublic of each.
func TestMadeOfOne(t *testing.T) {
	for _, m := range makersOfOne() {
		for _, x := range handedIn() {
			want, e := oughtMake(m.kind, x)
			if got, f := m.make(x.s, ""); got != want || f != e {
				t.Errorf("%c of %.60q (depth %d, %d bytes): %.60q, %v", m.kind, x.s, x.depth, len(x.s), got, f)
			}
		}
	}
}

// C1: OfPair, Seal, Box and Sign of each two: ErrArg stands ahead of ErrBig.
func TestMadeOfTwo(t *testing.T) {
	l := handedIn()
	for _, m := range makersOfTwo() {
		for _, x := range l {
			for _, y := range l {
				want, e := oughtMake(m.kind, x, y)
				if got, f := m.make(x.s, y.s); got != want || f != e {
					t.Errorf("%c of %.60q (depth %d, %d bytes), %.60q (depth %d, %d bytes): %.60q, %v", m.kind, x.s, x.depth, len(x.s), y.s, y.depth, len(y.s), got, f)
				}
			}
		}
	}
}

// C1: what is just right, and what is greater by one, by depth and by bytes, written out.
func TestBoundsOfWhatIsMade(t *testing.T) {
	const nought = "a\x00"
	deep := strings.Repeat("h", 38) + nought // of depth 39
	long, _ := term.OfText(strings.Repeat("x", 3993))
	public := "u" + strings.Repeat("h", 37) + nought
	for i, c := range []struct {
		a, b string
		kind byte
		want api.Errno
	}{
		{deep, "", 'h', api.OK}, {"h" + deep, "", 'h', api.ErrBig}, {"hh" + deep, "", 'h', api.ErrArg},
		{deep, "", 'u', api.OK}, {"h" + deep, "", 'u', api.ErrBig}, {"hh" + deep, "", 'u', api.ErrArg},
		{deep, nought, 'p', api.OK}, {"h" + deep, nought, 'p', api.ErrBig}, {nought, "h" + deep, 's', api.ErrBig}, {nought, deep, 'g', api.OK},
		{"h" + deep, "q", 'p', api.ErrArg}, {"q", "h" + deep, 's', api.ErrArg}, {"h" + deep, nought + "x", 'g', api.ErrArg},
		{public, nought, 'b', api.OK}, {"u" + deep, nought, 'b', api.ErrBig}, {"h" + deep, nought, 'b', api.ErrArg}, {"u" + deep, "q", 'b', api.ErrArg}, {nought, nought, 'b', api.ErrArg}, {"uh" + deep, nought, 'b', api.ErrArg},
		{nought, long, 'p', api.OK}, {"a\x01\x01", long, 'p', api.ErrBig}, {long, "a\x01\x01", 's', api.ErrBig}, {long, nought, 'g', api.OK},
	} {
		for _, m := range append(makersOfOne(), makersOfTwo()...) {
			if m.kind != c.kind {
				continue
			}
			if s, e := m.make(c.a, c.b); e != c.want || (s == "") != (e != api.OK) {
				t.Errorf("%d: %.60q, %v", i, s, e)
			}
		}
	}
}
