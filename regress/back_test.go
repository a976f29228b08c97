package regress_test

import (
	"math"
	"strings"
	"testing"

	"letterlock/api"
	"letterlock/regress"
)

// F2: steps that are written out.
func TestSomeStepsBack(t *testing.T) {
	for i, c := range []struct {
		state string
		steps int
		want  string
	}{
		{"a\x01\x05", 0, "a\x01\x05"},
		{"a\x01\x05", 1, "ha\x01\x05"},
		{"a\x01\x05", 2, "hha\x01\x05"},
		{"a\x01\x05", 8, "hhhhhhhha\x01\x05"}, // it knows no epochs, so it goes on beyond a chain's
		{"a\x01\x05", 39, strings.Repeat("h", 39) + "a\x01\x05"},
		{"hha\x00", 3, "hhhhha\x00"},
		{"pt\x00a\x00", 1, "hpt\x00a\x00"},
		{"ua\x00", 2, "hhua\x00"},
	} {
		if s, e := regress.Back(c.state, c.steps); s != c.want || e != api.OK {
			t.Errorf("%d: %q, %v", i, s, e)
		}
	}
}

// someSteps are those next to which something becomes another, and great ones.
func someSteps() []int {
	l := []int{math.MinInt64, math.MinInt64 + 1, -1 << 32, -1<<32 + 1, -256, -8, -2, -1, 100, 256, 3999, 4000, 4001, 1 << 16, 1 << 31, 1<<31 + 1, 1 << 32, 1<<32 + 1, math.MaxInt64 - 1, math.MaxInt64}
	for steps := range 45 {
		l = append(l, steps)
	}
	return l
}

// F2: each state and each number of steps, as the words say.
func TestBackAsItOughtToBe(t *testing.T) {
	for _, state := range all() {
		for _, steps := range someSteps() {
			want, e := oughtBack(state, steps)
			if s, f := regress.Back(state.s, steps); s != want || f != e {
				t.Errorf("Back(%.60q (depth %d, %d bytes), %d) = %.60q, %v", state.s, state.depth, len(state.s), steps, s, f)
			}
		}
	}
}

// F2: the bounds and the errors, written out.
func TestErrorsOfBack(t *testing.T) {
	deep := strings.Repeat("h", 39) + "a\x00"
	long := words(3996).s
	for i, c := range []struct {
		state string
		steps int
		want  api.Errno
	}{
		{"", 0, api.ErrArg}, {"", -1, api.ErrArg}, {"", 1, api.ErrArg}, {"x", 0, api.ErrArg}, {"a\x00x", 0, api.ErrArg}, {"x", 1 << 40, api.ErrArg},
		{"h" + deep, 0, api.ErrArg}, {"h" + long, 0, api.ErrArg}, {"h" + long, 1, api.ErrArg},
		{"a\x00", -1, api.ErrArg}, {"a\x00", math.MinInt64, api.ErrArg}, {deep, -1, api.ErrArg}, {long, -1, api.ErrArg},
		{"a\x00", 39, api.OK}, {"a\x00", 40, api.ErrBig}, {"a\x00", math.MaxInt64, api.ErrBig}, {"ha\x00", 38, api.OK}, {"ha\x00", 39, api.ErrBig},
		{deep, 0, api.OK}, {deep, 1, api.ErrBig}, {deep, math.MaxInt64, api.ErrBig}, {long, 0, api.OK}, {long, 1, api.ErrBig},
		{words(3957).s, 39, api.OK}, {words(3957).s, 40, api.ErrBig}, {words(3958).s, 38, api.OK}, {words(3958).s, 39, api.ErrBig},
	} {
		if s, e := regress.Back(c.state, c.steps); e != c.want || (s == "") != (e != api.OK) {
			t.Errorf("%d: %.60q, %v", i, s, e)
		}
	}
}

// F2: what is gone back in two goes is gone back in one.
func TestBackInTwoGoes(t *testing.T) {
	for _, x := range smallTerms() {
		for first := range 20 {
			for second := range 15 {
				half, e1 := regress.Back(x.s, first)
				two, e2 := regress.Back(half, second)
				one, e3 := regress.Back(x.s, first+second)
				if one != two || e1 != api.OK || e2 != api.OK || e3 != api.OK {
					t.Errorf("%q, %d and %d: %q, %q, %v, %v, %v", x.s, first, second, one, two, e1, e2, e3)
				}
			}
		}
	}
}
