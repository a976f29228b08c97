package draw_test

import (
	"strings"
	"testing"

	"letterlock/api"
	"letterlock/closure"
	"letterlock/draw"
	"letterlock/term"
)

// E3: secrets that are written out.
func TestSomeSecrets(t *testing.T) {
	for i, c := range []struct {
		use, who string
		n        uint64
		want     string
	}{
		{"user", "anna", 5, "hpt\x01\x09user:annaa\x01\x05"},
		{"root", "anna/notes", 258, "hpt\x01\x0froot:anna/notesa\x02\x01\x02"},
		{"sign", "anna/notes", 0, "hpt\x01\x0fsign:anna/notesa\x00"},
		{"", "", 0, "hpt\x01\x01:a\x00"},
		{"user", "", 1, "hpt\x01\x05user:a\x01\x01"},
		{"", "anna", 1, "hpt\x01\x05:annaa\x01\x01"},
		{"a", "b:c:", 1<<64 - 1, "hpt\x01\x06a:b:c:a\x08\xff\xff\xff\xff\xff\xff\xff\xff"},
	} {
		if s, e := draw.Secret(c.use, c.who, c.n); s != c.want || e != api.OK {
			t.Errorf("%d: %q, %v", i, s, e)
		}
	}
}

// E3: the secret is a hash of a pair of a text and an atom, by the calls that tell of terms.
func TestPartsOfASecret(t *testing.T) {
	for _, n := range someNumbers() {
		s, e := draw.Secret("user", "b\xfen", n)
		if e != api.OK || term.Kind(s) != term.Hash {
			t.Fatalf("%q, %v", s, e)
		}
		inside, _ := term.Parts(s)
		both, _ := term.Parts(inside[0])
		if term.Kind(inside[0]) != term.Pair || len(both) != 2 {
			t.Fatalf("%q", s)
		}
		words, e1 := term.Words(both[0])
		got, e2 := term.Number(both[1])
		if words != "user:b\xfen" || got != n || e1 != api.OK || e2 != api.OK {
			t.Errorf("%q, %d, %v, %v", words, got, e1, e2)
		}
	}
}

// hold holds a secret against what it ought to be.
func hold(t *testing.T, use, who string, n uint64) {
	t.Helper()
	want, e := oughtSecret(use, who, n)
	if s, f := draw.Secret(use, who, n); s != want || f != e {
		t.Errorf("of %d bytes, %d bytes, and %x: %.60q, %v", len(use), len(who), n, s, f)
	}
}

// E3: numbers and bytes of each kind: texts are bytes, whether these are runes or not.
func TestSecretAsItOughtToBe(t *testing.T) {
	for _, n := range someNumbers() {
		hold(t, "user", "anna", n)
	}
	for i := range 256 {
		b := string([]byte{byte(i)})
		hold(t, b, "anna", 7)
		hold(t, "user", b+"x"+b, 7)
		hold(t, b, b, uint64(i))
	}
}

// E3: secrets of each length next to which something becomes another, or they are too great: by the
// use, by who it is, by both, and by the number.
func TestSecretOfGreatTexts(t *testing.T) {
	lengths := []int{0, 1, 126, 127, 128, 253, 254, 255, 256, 257, 1 << 16, 1 << 24}
	for long := 3970; long <= 4010; long++ {
		lengths = append(lengths, long)
	}
	for _, long := range lengths {
		all := strings.Repeat("\xfe:y", long/3+1)[:long]
		for _, use := range []int{0, 1, long / 2, long - 1, long} {
			for _, n := range []uint64{0, 1, 255, 256, 1<<32 - 1, 1 << 32, 1<<56 - 1, 1 << 56, 1<<64 - 1} {
				if use >= 0 && use <= long {
					hold(t, all[:use], all[use:], n)
				}
			}
		}
	}
}

// E3: the greatest ones, and what is greater by one byte, written out.
func TestBoundOfASecret(t *testing.T) {
	for i, c := range []struct {
		use, who int
		n        uint64
		want     api.Errno
	}{
		{0, 3991, 0, api.OK}, {0, 3992, 0, api.ErrBig}, {3991, 0, 0, api.OK}, {3992, 0, 0, api.ErrBig},
		{2000, 1991, 0, api.OK}, {2000, 1992, 0, api.ErrBig}, {0, 3991, 1, api.ErrBig}, {0, 3990, 255, api.OK},
		{0, 3990, 256, api.ErrBig}, {0, 3983, 1<<64 - 1, api.OK}, {0, 3984, 1<<64 - 1, api.ErrBig},
		{0, 3995, 0, api.ErrBig}, {0, 3996, 0, api.ErrBig}, {4000, 0, 0, api.ErrBig}, {4001, 4001, 0, api.ErrBig},
		{1 << 24, 1 << 24, 0, api.ErrBig}, {1 << 24, 0, 0, api.ErrBig}, {0, 1 << 24, 0, api.ErrBig},
	} {
		s, e := draw.Secret(strings.Repeat("x", c.use), strings.Repeat("y", c.who), c.n)
		if e != c.want || (s == "") != (e != api.OK) {
			t.Errorf("%d: %d bytes, %v", i, len(s), e)
		}
	}
}

// P4: the same secret is told again, whatever was drawn between.
func TestSameSecretAgain(t *testing.T) {
	for _, n := range someNumbers() {
		one, _ := draw.Secret("user", "anna", n)
		draw.New(n).Next()
		draw.Secret("user", strings.Repeat("x", 5000), n)
		if two, e := draw.Secret("user", "anna", n); two != one || e != api.OK {
			t.Errorf("%q, %q, %v", one, two, e)
		}
	}
}

// textsOf are all texts of up to that many of those bytes.
func textsOf(bytes string, most int) []string {
	l := []string{""}
	for from := 0; most > 0; most-- {
		end := len(l)
		for _, s := range l[from:end] {
			for i := range len(bytes) {
				l = append(l, s+bytes[i:i+1])
			}
		}
		from = end
	}
	return l
}

// E4: secrets of another use, of others, or of another number, are others, as long as no use has a `:`.
func TestOthersHaveOtherSecrets(t *testing.T) {
	type from struct {
		use, who string
		n        uint64
	}
	of := map[string]from{}
	for _, use := range textsOf("ap\x00", 3) {
		for _, who := range textsOf("a:p\x00", 3) {
			for _, n := range []uint64{0, 1, 2, 97, 255, 256, 0x6100, 1<<64 - 1} {
				s, e := draw.Secret(use, who, n)
				if other, there := of[s]; there || e != api.OK {
					t.Fatalf("%q of %q, %q, %d and of %v, %v", s, use, who, n, other, e)
				}
				of[s] = from{use, who, n}
			}
		}
	}
}

// E4: of draws of one seed, the secrets are others each time.
func TestSecretsOfDrawsAreOthers(t *testing.T) {
	d, there := draw.New(1), map[string]bool{}
	for range 5000 {
		s, e := draw.Secret("root", "anna/notes", d.Next())
		if there[s] || e != api.OK {
			t.Fatalf("%q, %v", s, e)
		}
		there[s] = true
	}
}

// E3: a use that has a `:` is no error, but its secret may be that of another use.
func TestUseWithAColon(t *testing.T) {
	one, e := draw.Secret("a:b", "c", 1)
	two, f := draw.Secret("a", "b:c", 1)
	if one != two || e != api.OK || f != api.OK || one != "hpt\x01\x05a:b:ca\x01\x01" {
		t.Errorf("%q, %q, %v, %v", one, two, e, f)
	}
}

// made is a term that is made without an error.
func made(t *testing.T, s string, e api.Errno) string {
	t.Helper()
	if e != api.OK {
		t.Fatal(e)
	}
	return s
}

// E4: no secret can be told by one who holds much, but not its atom: not even what was made with it.
func TestSecretIsNotToldWithoutItsAtom(t *testing.T) {
	const hi = "t\x01\x02hi"
	for _, n := range someNumbers() {
		secret, e := draw.Secret("user", "anna", n)
		made(t, secret, e)
		held := []string{hi, "t\x01\x09user:anna", term.OfAtom(n + 1), term.OfAtom(n - 1), term.OfAtom(^n), term.OfAtom(draw.Mix(n))}
		say := func(s string, e api.Errno) { held = append(held, made(t, s, e)) }
		for _, c := range []struct {
			use, who string
			n        uint64
		}{{"user", "anna", n + 1}, {"user", "ben", n}, {"root", "anna", n}, {"user", "anna:", n}, {"", "user:anna", n}} {
			say(draw.Secret(c.use, c.who, c.n))
		}
		public, e := term.OfPublic(secret)
		say(public, e)
		say(term.OfHash(secret))
		say(term.Seal(secret, hi))
		say(term.Seal(secret, secret))
		say(term.Sign(secret, hi))
		say(term.Box(public, secret))
		if told, e := closure.Derives(held, secret); told || e != api.OK {
			t.Errorf("the secret of %x is told, %v", n, e)
		}
		if told, e := closure.Derives(append(held, term.OfAtom(n)), secret); !told || e != api.OK {
			t.Errorf("the secret of %x is not told with its atom, %v", n, e)
		}
	}
}
