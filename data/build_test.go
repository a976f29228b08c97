package data_test

import (
	"strings"
	"testing"

	"letterlock/api"
	"letterlock/data"
)

// built holds Build against the words, and answers what it is.
func built(t *testing.T, g given) (data.Blob, api.Errno) {
	t.Helper()
	want, e := g.ought()
	b, f := g.build()
	if b != want || f != e {
		t.Errorf("Build(%s): %s, %v; not %s, %v", show(g), show(b), f, show(want), e)
	}
	return b, f
}

// builds holds Build against the words, and against the error that is written out.
func builds(t *testing.T, g given, want api.Errno) {
	t.Helper()
	if _, e := built(t, g); e != want {
		t.Errorf("Build(%s): %v, not %v", show(g), e, want)
	}
}

// I1: blobs, written out.
func TestBuild(t *testing.T) {
	for i, c := range []struct {
		g    given
		want data.Blob
	}{
		{given{"a\x01\x09", 0, "a\x01\x07", "a/b", ""}, data.Blob{Epoch: 0, Sealed: "shpt\x01\x03keya\x01\x09pt\x01\x03a/bt\x00", Sig: "ga\x01\x07pa\x00shpt\x01\x03keya\x01\x09pt\x01\x03a/bt\x00"}},
		{given{"hhha\x00", 4, "t\x01\x02me", "anna/notes", "hi"}, data.Blob{Epoch: 4, Sealed: "shpt\x01\x03keyhhha\x00pt\x01\x0aanna/notest\x01\x02hi", Sig: "gt\x01\x02mepa\x01\x04shpt\x01\x03keyhhha\x00pt\x01\x0aanna/notest\x01\x02hi"}},
		{given{"t\x00", 7, "ua\x00", "\u00df/\u044f", "\xff\x00"}, data.Blob{Epoch: 7, Sealed: "shpt\x01\x03keyt\x00pt\x01\x05\xc3\x9f/\xd1\x8ft\x01\x02\xff\x00", Sig: "gua\x00pa\x01\x07shpt\x01\x03keyt\x00pt\x01\x05\xc3\x9f/\xd1\x8ft\x01\x02\xff\x00"}},
	} {
		if b, e := built(t, c.g); b != c.want || e != api.OK {
			t.Errorf("%d: %s, %v", i, show(b), e)
		}
	}
}

// I1: each epoch, path and contents, as the words say.
func TestBuildOfAllContents(t *testing.T) {
	for epoch := range lastEpoch + 1 {
		for _, path := range paths {
			for _, contents := range someContents {
				builds(t, given{stateOf(epoch), epoch, signerOf(epoch), path, contents}, api.OK)
			}
			for _, contents := range tooMuch {
				builds(t, given{stateOf(epoch), epoch, signerOf(epoch), path, contents}, api.ErrBig)
			}
		}
	}
	for many := range 2 * mostWords {
		g := hi(2)
		g.contents = strings.Repeat("y", many)
		want := api.OK
		if many > mostWords {
			want = api.ErrBig
		}
		builds(t, g, want)
	}
}

// I1: a state is that of any epoch that is told with it: what was the state of another one is no error.
func TestBuildOfAnyState(t *testing.T) {
	for epoch := range lastEpoch + 1 {
		for of := range lastEpoch + 1 {
			g := hi(epoch)
			g.state, g.signer = stateOf(of), stateOf(of)
			builds(t, g, api.OK)
		}
	}
}

// I1: right terms of each kind can be a state, and a signer.
func TestBuildOfEachKindOfTerm(t *testing.T) {
	for _, x := range rightTerms {
		for epoch := range lastEpoch + 1 {
			g := hi(epoch)
			g.state = x
			built(t, g)
			g = hi(epoch)
			g.signer = x
			built(t, g)
			g.state = x
			built(t, g)
		}
	}
}

// I1: what is wrong, alone, and with contents that are too great, or terms that would be.
func TestBuildOfWhatIsWrong(t *testing.T) {
	for _, ground := range []given{hi(0), hi(7), {deep, 1, signerOf(1), here, "hi"}, {root, 1, deep, here, ""}, {root, 3, signerOf(3), here, tooMuch[0]}, {words(3996), 3, words(3996), here, tooMuch[3]}} {
		for _, x := range wrongEpochs {
			g := ground
			g.epoch = x
			builds(t, g, api.ErrArg)
		}
		for _, x := range wrongTerms {
			g := ground
			g.state = x
			builds(t, g, api.ErrArg)
			g = ground
			g.signer = x
			builds(t, g, api.ErrArg)
		}
		for _, x := range wrongPaths {
			g := ground
			g.path = x
			builds(t, g, api.ErrArg)
		}
	}
	builds(t, given{}, api.ErrArg)
}

// I1: how deep a state and a signer may be.
func TestBuildOfDeepTerms(t *testing.T) {
	for many := range 40 {
		x := strings.Repeat("h", many) + root
		state, signer := api.OK, api.OK
		if many > 34 { // the state stands in the pair, hash, sealed, pair and what is signed
			state = api.ErrBig
		}
		if many > 38 {
			signer = api.ErrBig
		}
		builds(t, given{x, 3, signerOf(3), here, "hi"}, state)
		builds(t, given{root, 3, x, here, "hi"}, signer)
	}
	for _, x := range []string{"t\x00", "a\x00", root} { // flat ones
		builds(t, given{x, 0, x, here, ""}, api.OK)
	}
}

// I1: how long all of it may be.
func TestBuildOfLongTerms(t *testing.T) {
	for _, path := range []string{"a/b", paths[len(paths)-1]} {
		for _, contents := range []string{"", someContents[7]} {
			for epoch := range 2 {
				for _, set := range []func(g *given, x string){func(g *given, x string) { g.state = x }, func(g *given, x string) { g.signer = x }} {
					long := 0
					for many := 3500; many <= 3996; many++ {
						g := given{root, epoch, "a\x00", path, contents}
						set(&g, words(many))
						if b, e := built(t, g); e == api.OK {
							long = len(b.Sig)
						} else if e != api.ErrBig {
							t.Errorf("%d: %v", many, e)
						}
					}
					if long != api.MaxBytes {
						t.Errorf("the longest has %d bytes", long)
					}
				}
			}
		}
	}
}
