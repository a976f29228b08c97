package term_test

import (
	"strings"
	"testing"

	"letterlock/api"
	"letterlock/term"
)

// C3: Open and Unbox of each key and each of what may be closed.
func TestOpenAndUnbox(t *testing.T) {
	l := handedIn()
	for _, key := range l {
		for _, c := range l {
			want, e := oughtOpen(key, c)
			if got, f := term.Open(key.s, c.s); got != want || f != e {
				t.Errorf("Open(%.60q, %.60q) = %.60q, %v", key.s, c.s, got, f)
			}
			want, e = oughtUnbox(key, c)
			if got, f := term.Unbox(key.s, c.s); got != want || f != e {
				t.Errorf("Unbox(%.60q, %.60q) = %.60q, %v", key.s, c.s, got, f)
			}
		}
	}
}

// C3: a secret that is too deep for a public term unboxes nothing, and none of its own.
func TestUnboxWithADeepSecret(t *testing.T) {
	deep := strings.Repeat("h", 39) + "a\x00"
	if got, e := term.Unbox(deep, "bua\x00a\x00"); got != "" || e != api.ErrDenied {
		t.Errorf("%q, %v", got, e)
	}
	if got, e := term.Unbox(deep, "a\x00"); got != "" || e != api.ErrForm {
		t.Errorf("%q, %v", got, e)
	}
	if got, e := term.Unbox("h"+deep, "a\x00"); got != "" || e != api.ErrArg {
		t.Errorf("%q, %v", got, e)
	}
	least := strings.Repeat("h", 37) + "a\x00"
	if got, e := term.Unbox(least, "bu"+least+"t\x00"); got != "t\x00" || e != api.OK {
		t.Errorf("%q, %v", got, e)
	}
}

// C3: Verify of each three of small terms and of wrong ones.
func TestVerify(t *testing.T) {
	l := append(smallTerms(), wrong(""), wrong("u"), wrong("ga\x00"), wrong("ua\x00x"))
	for _, public := range l {
		for _, a := range l {
			for _, s := range l {
				if e := term.Verify(public.s, a.s, s.s); e != oughtVerify(public, a, s) {
					t.Errorf("Verify(%q, %q, %q) = %v", public.s, a.s, s.s, e)
				}
			}
		}
	}
}

// C3: Verify of terms next to the bounds, of which some are too great to be signed.
func TestVerifyOfGreatTerms(t *testing.T) {
	key := atomOf(1)
	public := termOf('u', key)
	for _, a := range greatTerms() {
		s := termOf('g', key, a)
		if e := term.Verify(public.s, a.s, s.s); e != oughtVerify(public, a, s) {
			t.Errorf("what is signed: %.60q: %v", a.s, e)
		}
		if e := term.Verify(public.s, a.s, public.s); e != oughtVerify(public, a, public) {
			t.Errorf("what is not signed: %.60q: %v", a.s, e)
		}
		u, g := termOf('u', a), termOf('g', a, key)
		if e := term.Verify(u.s, key.s, g.s); e != oughtVerify(u, key, g) {
			t.Errorf("with a great secret: %.60q: %v", a.s, e)
		}
	}
}

// C3: of two errors the first one, written out.
func TestErrorsOfOpening(t *testing.T) {
	const key, hi = "a\x01\x05", "t\x01\x02hi"
	for i, c := range []struct{ got, want api.Errno }{
		{second(term.Open("", "")), api.ErrArg},
		{second(term.Open("", hi)), api.ErrArg},
		{second(term.Open(key, "s"+key)), api.ErrArg},
		{second(term.Open(key, "s"+key+hi+"x")), api.ErrArg},
		{second(term.Open(key, hi)), api.ErrForm},
		{second(term.Open(key, "bu"+key+hi)), api.ErrForm},
		{second(term.Open(hi, "s"+key+hi)), api.ErrDenied},
		{second(term.Open(key, "s"+key+hi)), api.OK},
		{second(term.Unbox("", "")), api.ErrArg},
		{second(term.Unbox("x", hi)), api.ErrArg},
		{second(term.Unbox(key, "b"+key+hi)), api.ErrArg},
		{second(term.Unbox(key, hi)), api.ErrForm},
		{second(term.Unbox(key, "s"+key+hi)), api.ErrForm},
		{second(term.Unbox("u"+key, "bu"+key+hi)), api.ErrDenied},
		{second(term.Unbox(key, "bu"+key+hi)), api.OK},
		{term.Verify("x", hi, "g"+key+hi), api.ErrArg},
		{term.Verify("u"+key, "x", "g"+key+hi), api.ErrArg},
		{term.Verify("u"+key, hi, "x"), api.ErrArg},
		{term.Verify(key, hi, "x"), api.ErrArg},
		{term.Verify(key, hi, "g"+key+hi), api.ErrSig},
		{term.Verify("h"+key, hi, "g"+key+hi), api.ErrSig},
		{term.Verify("u"+hi, hi, "g"+key+hi), api.ErrSig},
		{term.Verify("u"+key, key, "g"+key+hi), api.ErrSig},
		{term.Verify("u"+key, hi, "s"+key+hi), api.ErrSig},
		{term.Verify("u"+key, hi, "g"+key+hi), api.OK},
	} {
		if c.got != c.want {
			t.Errorf("%d: %v", i, c.got)
		}
	}
}

func second(_ string, e api.Errno) api.Errno { return e }

// C4: what was sealed, boxed, signed is opened, unboxed, verified with the right key, and with no other one.
func TestRightKeyAndNoOther(t *testing.T) {
	l := smallTerms()
	for _, key := range l {
		for _, a := range l {
			sealed, e1 := term.Seal(key.s, a.s)
			public, e2 := term.OfPublic(key.s)
			boxed, e3 := term.Box(public, a.s)
			signed, e4 := term.Sign(key.s, a.s)
			if e1 != api.OK || e2 != api.OK || e3 != api.OK || e4 != api.OK {
				t.Fatal(e1, e2, e3, e4)
			}
			for _, other := range l {
				want, denied, forged := a.s, api.OK, api.OK
				if other.s != key.s {
					want, denied, forged = "", api.ErrDenied, api.ErrSig
				}
				if got, e := term.Open(other.s, sealed); got != want || e != denied {
					t.Errorf("%q, sealed with %q, opened with %q: %q, %v", a.s, key.s, other.s, got, e)
				}
				if got, e := term.Unbox(other.s, boxed); got != want || e != denied {
					t.Errorf("%q, boxed for %q, unboxed with %q: %q, %v", a.s, key.s, other.s, got, e)
				}
				verify, _ := term.OfPublic(other.s)
				if e := term.Verify(verify, a.s, signed); e != forged {
					t.Errorf("%q, signed with %q, verified with that of %q: %v", a.s, key.s, other.s, e)
				}
			}
		}
	}
}

// again makes a term of what the package tells of it.
func again(t *testing.T, s string) string {
	t.Helper()
	parts, e := term.Parts(s)
	if e != api.OK {
		t.Fatalf("%.60q: %v", s, e)
	}
	for i := range parts {
		parts[i] = again(t, parts[i])
	}
	var made string
	switch term.Kind(s) {
	case term.Atom:
		n, _ := term.Number(s)
		return term.OfAtom(n)
	case term.Text:
		w, _ := term.Words(s)
		made, e = term.OfText(w)
	case term.Hash:
		made, e = term.OfHash(parts[0])
	case term.Public:
		made, e = term.OfPublic(parts[0])
	case term.Pair:
		made, e = term.OfPair(parts[0], parts[1])
	case term.Sealed:
		made, e = term.Seal(parts[0], parts[1])
	case term.Boxed:
		made, e = term.Box(parts[0], parts[1])
	case term.Signed:
		made, e = term.Sign(parts[0], parts[1])
	}
	if e != api.OK {
		t.Errorf("%.60q: %v", s, e)
	}
	return made
}

// C4: a term's bytes tell it wholly: made again of what is told of them, it has them again.
func TestMadeAgain(t *testing.T) {
	for _, x := range handedIn() {
		if x.right() && again(t, x.s) != x.s {
			t.Errorf("%.60q is made again as %.60q", x.s, again(t, x.s))
		}
	}
	eachText(func(s string) {
		if x, _, e := term.Read(s); e == api.OK && again(t, x) != x {
			t.Errorf("%q is made again as %q", x, again(t, x))
		}
	})
}

// C4: terms that are made of others, or otherwise, have other bytes.
func TestOthersHaveOtherBytes(t *testing.T) {
	type made struct {
		kind byte
		a, b string
	}
	of := map[string]made{}
	say := func(s string, e api.Errno, m made) {
		if before, there := of[s]; e == api.OK && there && before != m {
			t.Errorf("%q is %v and %v", s, before, m)
		}
		of[s] = m
	}
	l := smallTerms()
	for _, x := range l {
		for _, m := range makersOfOne() {
			s, e := m.make(x.s, "")
			say(s, e, made{m.kind, x.s, ""})
		}
		for _, y := range l {
			for _, m := range makersOfTwo() {
				if s, e := m.make(x.s, y.s); e == api.OK {
					say(s, e, made{m.kind, x.s, y.s})
				}
			}
		}
	}
}
