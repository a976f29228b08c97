package regress_test

import (
	"strings"
	"testing"

	"letterlock/api"
	"letterlock/regress"
	"letterlock/term"
)

// F3: keys that are written out.
func TestKeysOfSomeStates(t *testing.T) {
	for i, c := range []struct{ state, want string }{
		{"a\x01\x05", "hpt\x01\x03keya\x01\x05"},
		{"ha\x01\x05", "hpt\x01\x03keyha\x01\x05"},
		{"t\x01\x03key", "hpt\x01\x03keyt\x01\x03key"},
		{"hpt\x01\x03keya\x00", "hpt\x01\x03keyhpt\x01\x03keya\x00"},
	} {
		if s, e := regress.Key(c.state); s != c.want || e != api.OK {
			t.Errorf("%d: %q, %v", i, s, e)
		}
	}
}

// F3: the key of each state, as the words say.
func TestKeyAsItOughtToBe(t *testing.T) {
	for _, state := range all() {
		want, e := oughtKey(state)
		if s, f := regress.Key(state.s); s != want || f != e {
			t.Errorf("Key(%.60q (depth %d, %d bytes)) = %.60q, %v", state.s, state.depth, len(state.s), s, f)
		}
	}
}

// F3: the bounds, written out: by depth the pair and the hash are two more, by bytes eight.
func TestErrorsOfKey(t *testing.T) {
	deep := strings.Repeat("h", 37) + "a\x00" // of depth 38
	long := words(3988).s                     // of 3992 bytes
	for i, c := range []struct {
		state string
		want  api.Errno
	}{
		{"", api.ErrArg}, {"x", api.ErrArg}, {"key", api.ErrArg}, {"a\x00x", api.ErrArg}, {"hhh" + deep, api.ErrArg}, {words(3997).s, api.ErrArg},
		{deep, api.OK}, {"h" + deep, api.ErrBig}, {"hh" + deep, api.ErrBig},
		{long, api.OK}, {words(3989).s, api.ErrBig}, {words(3994).s, api.ErrBig}, {words(3996).s, api.ErrBig},
	} {
		if s, e := regress.Key(c.state); e != c.want || (s == "") != (e != api.OK) {
			t.Errorf("%d: %.60q, %v", i, s, e)
		}
	}
}

// F3: the key is a hash of a pair of a text and the state, by the calls that tell of terms.
func TestPartsOfAKey(t *testing.T) {
	for _, x := range smallTerms() {
		s, e := regress.Key(x.s)
		if e != api.OK || term.Kind(s) != term.Hash {
			t.Fatalf("%q, %v", s, e)
		}
		inside, _ := term.Parts(s)
		both, _ := term.Parts(inside[0])
		if term.Kind(inside[0]) != term.Pair || len(both) != 2 || both[1] != x.s {
			t.Fatalf("%q", s)
		}
		if w, e := term.Words(both[0]); w != "key" || e != api.OK {
			t.Errorf("%q: %q, %v", x.s, w, e)
		}
	}
}

// F3: other states have other keys.
func TestOtherStatesHaveOtherKeys(t *testing.T) {
	of := map[string]string{}
	for _, x := range append(smallTerms(), greatTerms()...) {
		s, e := regress.Key(x.s)
		if other, there := of[s]; e == api.OK && there && other != x.s {
			t.Errorf("%.60q and %.60q have the same key", x.s, other)
		}
		of[s] = x.s
	}
}
