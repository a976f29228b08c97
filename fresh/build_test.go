package fresh_test

import (
	"slices"
	"strings"
	"testing"

	"letterlock/api"
	"letterlock/fresh"
)

// built holds Build against the words, and answers what it is.
func built(t *testing.T, g given) (fresh.Stamp, api.Errno) {
	t.Helper()
	want, e := g.ought()
	s, f := g.build()
	if s != want || f != e {
		t.Errorf("Build(%s): %s, %v; not %s, %v", show(g), show(s), f, show(want), e)
	}
	return s, f
}

// builds holds Build against the words, and against the error that is written out.
func builds(t *testing.T, g given, want api.Errno) {
	t.Helper()
	if _, e := built(t, g); e != want {
		t.Errorf("Build(%s): %v, not %v", show(g), e, want)
	}
}

// K1: stamps, written out.
func TestBuild(t *testing.T) {
	const a, b, c = "pt\x01\x01aa\x00", "pt\x01\x01ba\x01\x05", "pt\x00a\x02\x01\x00"
	const ab = "hph" + a + "h" + b
	for i, x := range []struct {
		g    given
		want fresh.Stamp
	}{
		{given{"a\x00", "a", 0, nil}, fresh.Stamp{"a", 0, 0, "t\x00", "ga\x00pt\x01\x01apa\x00pa\x00t\x00"}},
		{given{"a\x00", "a", 0, []string{}}, fresh.Stamp{"a", 0, 0, "t\x00", "ga\x00pt\x01\x01apa\x00pa\x00t\x00"}},
		{given{anna, "anna", 7, []string{a}}, fresh.Stamp{"anna", 7, 1, "h" + a, "ga\x01\x01pt\x01\x04annapa\x01\x07pa\x01\x01h" + a}},
		{given{"t\x01\x02me", "ben", 256, []string{a, b}}, fresh.Stamp{"ben", 256, 2, ab, "gt\x01\x02mept\x01\x03benpa\x02\x01\x00pa\x01\x02" + ab}},
		{given{"ua\x00", "\u044f-0", 1<<64 - 1, []string{a, b, c}}, fresh.Stamp{"\u044f-0", 1<<64 - 1, 3, "hp" + ab + "h" + c, "gua\x00pt\x01\x04\xd1\x8f-0pa\x08\xff\xff\xff\xff\xff\xff\xff\xffpa\x01\x03hp" + ab + "h" + c}},
		{given{anna, "anna", 1, slices.Repeat([]string{a}, 8)}, fresh.Stamp{"anna", 1, 8, strings.Repeat("hp", 3) + "h" + a + "h" + a + "hph" + a + "h" + a + "hphph" + a + "h" + a + "hph" + a + "h" + a, "ga\x01\x01pt\x01\x04annapa\x01\x01pa\x01\x08hphphph" + a + "h" + a + "hph" + a + "h" + a + "hphph" + a + "h" + a + "hph" + a + "h" + a}},
	} {
		if s, e := built(t, x.g); s != x.want || e != api.OK {
			t.Errorf("%d: %s, %v", i, show(s), e)
		}
	}
}

// K1: each owner, each time, and as many leaves as there may be, or more.
func TestBuildOfAll(t *testing.T) {
	for _, owner := range owners {
		for _, time := range times {
			for many := range 12 {
				want := api.OK
				if many > mostLeaves {
					want = api.ErrArg
				}
				builds(t, given{anna, owner, time, files(many)}, want)
			}
		}
	}
}

// K1: right terms of each kind are secrets, as far as they can sign.
func TestBuildWithEachSecret(t *testing.T) {
	for _, x := range rightTerms {
		want := api.OK
		if len(x) > 3000 || strings.Contains(x, deep[1:]) {
			want = api.ErrBig
		}
		for _, many := range counts {
			builds(t, given{x, "anna", 7, files(many)}, want)
		}
	}
}

// K1: what is wrong, alone, and beside leaves of which there is no root, or what would be too great.
func TestBuildOfWhatIsWrong(t *testing.T) {
	for _, ground := range []given{given7(nil), given7(files(8)), given7(files(9)), given7([]string{"x"}), given7([]string{leafAs(4000)}), given7([]string{leafAs(3990), leafAs(3990)}), {deep, "anna", 7, nil}, {words(3996), "ben", 0, files(2)}} {
		for _, x := range wrongTerms {
			g := ground
			g.secret = x
			builds(t, g, api.ErrArg)
		}
		for _, x := range wrongOwners {
			g := ground
			g.owner = x
			builds(t, g, api.ErrArg)
		}
	}
	builds(t, given{}, api.ErrArg)
}

// K1: of leaves of which there is no root the root's error is told, also where nothing could be signed.
func TestBuildOfWrongLeaves(t *testing.T) {
	for _, secret := range []string{anna, deep, words(3996)} {
		for many := 1; many <= 10; many++ {
			for at := range many {
				for _, x := range wrongLeaves {
					l := files(many)
					l[at] = x
					builds(t, given{secret, "anna", 7, l}, api.ErrArg)
				}
			}
		}
		builds(t, given{secret, "anna", 7, []string{leafAs(4000), "x"}}, api.ErrArg)
		builds(t, given{secret, "anna", 7, slices.Repeat([]string{leafAs(4000)}, 9)}, api.ErrArg)
		builds(t, given{secret, "anna", 7, []string{leafAs(4000)}}, api.ErrBig)
		builds(t, given{secret, "anna", 7, []string{leafAs(2000), leafAs(2000)}}, api.ErrBig)
	}
}

// K1: how deep a secret may be.
func TestBuildWithDeepSecrets(t *testing.T) {
	for many := range 41 {
		want := api.OK
		switch {
		case many > 39: // no right term
			want = api.ErrArg
		case many > 38: // it stands in what is signed
			want = api.ErrBig
		}
		for _, leaves := range [][]string{nil, files(1), files(8)} {
			builds(t, given{strings.Repeat("h", many) + anna, "anna", 7, leaves}, want)
		}
	}
}

// K1: how long all of it may be: the secret, or a leaf.
func TestBuildOfLongTerms(t *testing.T) {
	for _, owner := range []string{"a", longest} {
		for _, time := range []uint64{0, 1<<64 - 1} {
			for _, set := range []func(g *given, many int){
				func(g *given, many int) { g.secret = words(many) },
				func(g *given, many int) { g.secret, g.leaves = words(many), nil },
				func(g *given, many int) { g.leaves = []string{leafAs(many)} },
				func(g *given, many int) { g.leaves = []string{files(1)[0], leafAs(many), files(1)[0]} },
			} {
				long := 0
				for many := 3850; many <= 3996; many++ {
					g := given{"a\x00", owner, time, files(1)}
					set(&g, many)
					if s, e := built(t, g); e == api.OK {
						long = len(s.Sig)
					} else if e != api.ErrBig {
						t.Errorf("%d: %v", many, e)
					}
				}
				if long != api.MaxBytes {
					t.Errorf("the longest has %d bytes", long)
				}
			}
		}
	}
}
