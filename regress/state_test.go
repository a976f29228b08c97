package regress_test

import (
	"math"
	"strings"
	"testing"

	"letterlock/api"
	"letterlock/regress"
	"letterlock/term"
)

// F1: states that are written out.
func TestStatesOfSomeRoots(t *testing.T) {
	for i, c := range []struct {
		root  string
		epoch int
		want  string
	}{
		{"a\x01\x05", 7, "a\x01\x05"},
		{"a\x01\x05", 6, "ha\x01\x05"},
		{"a\x01\x05", 5, "hha\x01\x05"},
		{"a\x01\x05", 1, "hhhhhha\x01\x05"},
		{"a\x01\x05", 0, "hhhhhhha\x01\x05"},
		{"ha\x01\x05", 7, "ha\x01\x05"},
		{"ha\x01\x05", 0, "hhhhhhhha\x01\x05"},
		{"hpt\x01\x0froot:anna/notesa\x00", 3, "hhhhhpt\x01\x0froot:anna/notesa\x00"},
		{"t\x00", 4, "hhht\x00"},
	} {
		if s, e := regress.State(c.root, c.epoch); s != c.want || e != api.OK {
			t.Errorf("%d: %q, %v", i, s, e)
		}
	}
}

// someEpochs are all, and numbers that are none, of which some are one in fewer bits.
func someEpochs() []int {
	l := []int{math.MinInt64, math.MinInt64 + 1, math.MinInt64 + 7, -1 << 32, -1<<32 + 3, -256, -249, -100, math.MaxInt64, math.MaxInt64 - 1, 1 << 32, 1<<32 + 3, 1 << 31, 1<<31 + 3, 1<<16 + 3, 256, 259, 100}
	for epoch := -41; epoch <= 41; epoch++ {
		l = append(l, epoch)
	}
	return l
}

// F1: each root and each epoch, as the words say.
func TestStateAsItOughtToBe(t *testing.T) {
	for _, root := range all() {
		for _, epoch := range someEpochs() {
			want, e := oughtState(root, epoch)
			if s, f := regress.State(root.s, epoch); s != want || f != e {
				t.Errorf("State(%.60q (depth %d, %d bytes), %d) = %.60q, %v", root.s, root.depth, len(root.s), epoch, s, f)
			}
		}
	}
}

// F1: the bounds and the order of the errors, written out.
func TestErrorsOfState(t *testing.T) {
	deep := strings.Repeat("h", 39) + "a\x00" // of depth 40
	long := words(3996).s                     // of 4000 bytes
	for i, c := range []struct {
		root  string
		epoch int
		want  api.Errno
	}{
		{"", 0, api.ErrArg}, {"", -1, api.ErrArg}, {"", 8, api.ErrArg}, {"x", 7, api.ErrArg}, {"a\x00x", 9, api.ErrArg},
		{"h" + deep, 7, api.ErrArg}, {"h" + deep, 8, api.ErrArg}, {"h" + long, 7, api.ErrArg}, {"h" + long, -1, api.ErrArg},
		{"a\x00", -1, api.ErrChain}, {"a\x00", 8, api.ErrChain}, {deep, 8, api.ErrChain}, {deep, -1, api.ErrChain}, {long, 8, api.ErrChain},
		{deep, 7, api.OK}, {deep, 6, api.ErrBig}, {deep, 0, api.ErrBig}, {deep[1:], 6, api.OK}, {deep[1:], 5, api.ErrBig},
		{deep[7:], 0, api.OK}, {deep[6:], 0, api.ErrBig}, {deep[6:], 1, api.OK},
		{long, 7, api.OK}, {long, 6, api.ErrBig}, {long, 0, api.ErrBig}, {words(3995).s, 6, api.OK}, {words(3995).s, 5, api.ErrBig},
		{words(3989).s, 0, api.OK}, {words(3990).s, 0, api.ErrBig}, {words(3990).s, 1, api.OK},
	} {
		if s, e := regress.State(c.root, c.epoch); e != c.want || (s == "") != (e != api.OK) {
			t.Errorf("%d: %.60q, %v", i, s, e)
		}
	}
}

// F1: the root is the last epoch's state, and each other one is the hash of the next one.
func TestEachStateIsTheHashOfTheNext(t *testing.T) {
	for _, root := range smallTerms() {
		next, e := regress.State(root.s, 7)
		if next != root.s || e != api.OK {
			t.Fatalf("%q: %q, %v", root.s, next, e)
		}
		for epoch := 6; epoch >= 0; epoch-- {
			want, e := term.OfHash(next)
			s, f := regress.State(root.s, epoch)
			if s != want || e != api.OK || f != api.OK {
				t.Errorf("%q, %d: %q, %v, %v", root.s, epoch, s, e, f)
			}
			next = s
		}
	}
}
