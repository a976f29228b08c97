package user_test

import (
	"slices"
	"strings"
	"testing"

	"letterlock/api"
	"letterlock/user"
)

// N1: a user, its secret and its public term, written out.
func TestNew(t *testing.T) {
	u, e := user.New("anna", 0)
	secret := "hpt\x01\x09user:annaa\x08\xe2\x20\xa8\x39\x7b\x1d\xcd\xaf"
	if e != api.OK || u.Name() != "anna" || u.Secret() != secret || u.Public() != "u"+secret {
		t.Errorf("%v: %q, %q, %q", e, u.Name(), u.Secret(), u.Public())
	}
}

// N1: of each name, and each seed, a user that owns nothing.
func TestNewOwnsNothing(t *testing.T) {
	for _, n := range names() {
		for _, seed := range seeds() {
			b := newBoth(t, n, seed)
			b.hold(append(names(), noNames()...)...)
			if len(b.u.Files()) > 0 {
				t.Errorf("%q", b.u.Files())
			}
			for _, file := range append(names(), noNames()...) {
				if b.grant(file, "ben", true) != api.ErrNone || b.revoke(file, "ben") != api.ErrNone || b.remove(file) != api.ErrNone {
					t.Errorf("%q", file)
				}
			}
			b.hold(n)
		}
	}
}

// N1: names of each length next to which they are refused: runes are counted, not bytes.
func TestNewOfEachLength(t *testing.T) {
	for _, one := range []string{"a", "9", "-", "\u00df", "\u03c9", "\u044f"} {
		for many := 1; many < 40; many++ {
			n := strings.Repeat(one, many)
			if many <= 32 {
				newBoth(t, n, 1).hold(n)
				continue
			}
			if u, e := user.New(n, 1); u != nil || e != api.ErrName {
				t.Errorf("%d of %q: %v", many, one, e)
			}
		}
	}
}

// N1: what is no name is nobody's, whatever the seed.
func TestNewOfNoName(t *testing.T) {
	for _, n := range noNames() {
		for _, seed := range seeds() {
			if u, e := user.New(n, seed); u != nil || e != api.ErrName {
				t.Errorf("New(%.80q, %d): %v", n, seed, e)
			}
		}
	}
}

// N1: users of other names, or of other seeds, have other secrets, and the same ones the same.
func TestSecretsOfUsers(t *testing.T) {
	var l []string
	for _, n := range names() {
		for _, seed := range seeds() {
			a, b := newBoth(t, n, seed).u, newBoth(t, n, seed).u
			if a.Secret() != b.Secret() || a.Public() != b.Public() {
				t.Errorf("%q, %d", n, seed)
			}
			l = append(l, a.Secret())
		}
	}
	many := len(l)
	slices.Sort(l)
	if len(slices.Compact(l)) != many {
		t.Error("two users have one secret")
	}
}

// N1: a name, a secret and a public term stay, whatever is done.
func TestSecretStays(t *testing.T) {
	b, d := newBoth(t, "anna", 3), &dice{1}
	secret, public := b.u.Secret(), b.u.Public()
	for range 200 {
		b.step(d)
		if b.u.Name() != "anna" || b.u.Secret() != secret || b.u.Public() != public {
			t.Fatalf("%q, %q, %q", b.u.Name(), b.u.Secret(), b.u.Public())
		}
	}
}
