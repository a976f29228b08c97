package data_test

import (
	"slices"
	"strings"
	"testing"

	"letterlock/api"
	"letterlock/data"
)

// opened holds Open against the words, and answers what it is.
func opened(t *testing.T, a asked) (string, api.Errno) {
	t.Helper()
	want, e := a.ought()
	contents, f := a.open()
	if contents != want || f != e {
		t.Errorf("Open(%s): %q, %v; not %q, %v", show(a), contents, f, want, e)
	}
	return contents, f
}

// opens holds Open against the words, and against what is written out.
func opens(t *testing.T, a asked, contents string, want api.Errno) {
	t.Helper()
	if s, e := opened(t, a); s != contents || e != want {
		t.Errorf("Open(%s): %q, %v; not %q, %v", show(a), s, e, contents, want)
	}
}

// I3: blobs that are opened, and not, written out.
func TestOpen(t *testing.T) {
	const (
		one, two = "a\x01\x0b", "a\x01\x0c"
		sealed   = "shpt\x01\x03keyhha\x01\x09pt\x01\x0aanna/notest\x01\x02hi"
	)
	b := data.Blob{Epoch: 1, Sealed: sealed, Sig: "g" + two + "pa\x01\x01" + sealed}
	v := []string{"u" + one, "u" + two, "u" + one, "x"}
	zero, later := b, b
	zero.Epoch, later.Epoch = 0, 2
	for i, c := range []struct {
		a        asked
		contents string
		want     api.Errno
	}{
		{asked{b, v[:2], "hh" + root, 1, here}, "hi", api.OK},
		{asked{b, v[:3], "h" + root, 2, here}, "hi", api.OK},
		{asked{b, v, root, 3, here}, "hi", api.OK},
		{asked{b, []string{"", v[1]}, "hh" + root, 1, here}, "hi", api.OK}, // the others are not looked at
		{asked{b, []string{v[0], v[1], "x"}, "h" + root, 2, here}, "hi", api.OK},
		{asked{b, v[:1], "hhh" + root, 0, here}, "", api.ErrSig}, // of a later epoch
		{asked{b, v[1:2], "hh" + root, 0, here}, "", api.ErrSig},
		{asked{b, v[:2], "h" + root, 1, here}, "", api.ErrSig}, // of another state
		{asked{b, v[:2], "hhh" + root, 1, here}, "", api.ErrSig},
		{asked{b, v[:3], "hh" + root, 2, here}, "", api.ErrSig},
		{asked{b, v[:2], "hha\x01\x0a", 1, here}, "", api.ErrSig},
		{asked{b, v[:2], keyOf + "hh" + root, 1, here}, "", api.ErrSig},
		{asked{b, []string{v[1], v[0]}, "hh" + root, 1, here}, "", api.ErrSig}, // of another one
		{asked{b, []string{v[0], two}, "hh" + root, 1, here}, "", api.ErrSig},
		{asked{b, []string{v[0], "x"}, "hh" + root, 1, here}, "", api.ErrSig},
		{asked{b, []string{v[0], ""}, "hh" + root, 1, here}, "", api.ErrSig},
		{asked{b, v[:2], "hh" + root, 1, "anna/note"}, "", api.ErrSig}, // for another path
		{asked{b, v[:2], "hh" + root, 1, "anna/notes/"}, "", api.ErrSig},
		{asked{b, v[:2], "hh" + root, 1, "ben/notes"}, "", api.ErrSig},
		{asked{b, v[:2], "hh" + root, 1, ""}, "", api.ErrSig},
		{asked{zero, v[:2], "hh" + root, 1, here}, "", api.ErrSig}, // passed off
		{asked{zero, []string{v[1], v[1]}, "h" + root, 1, here}, "", api.ErrSig},
		{asked{later, []string{v[1], v[1], v[1]}, "hh" + root, 2, here}, "", api.ErrSig},
		{asked{b, nil, "hh" + root, 1, here}, "", api.ErrArg},
		{asked{b, v[:1], "hh" + root, 1, here}, "", api.ErrArg},
		{asked{b, v[:3], "hh" + root, 1, here}, "", api.ErrArg},
		{asked{b, v[:2], "", 1, here}, "", api.ErrArg},
		{asked{b, v[:2], "hh" + root + "x", 1, here}, "", api.ErrArg},
		{asked{b, nil, "hh" + root, -1, here}, "", api.ErrArg},
		{asked{b, slices.Repeat(v[1:2], 9), "hh" + root, 8, here}, "", api.ErrArg},
		{asked{data.Blob{Epoch: 8, Sealed: sealed, Sig: b.Sig}, v[:2], "hh" + root, 1, here}, "", api.ErrArg},
		{asked{data.Blob{Epoch: -1, Sealed: sealed, Sig: b.Sig}, v[:2], "hh" + root, 1, here}, "", api.ErrArg},
		{asked{data.Blob{Epoch: 1, Sealed: b.Sig, Sig: b.Sig}, v[:2], "hh" + root, 1, here}, "", api.ErrArg},
		{asked{data.Blob{Epoch: 1, Sealed: sealed, Sig: sealed}, v[:2], "hh" + root, 1, here}, "", api.ErrArg},
		{asked{data.Blob{}, v[:2], "hh" + root, 1, here}, "", api.ErrArg},
		{asked{}, "", api.ErrArg},
	} {
		if s, e := opened(t, c.a); s != c.contents || e != c.want {
			t.Errorf("%d: %q, %v", i, s, e)
		}
	}
}

// I3: each path and contents that a rightly signed blob may hold, asked for by each path: names are no matter here.
func TestWhatABlobHolds(t *testing.T) {
	read, not := 0, 0
	for _, x := range insides() {
		b := signedBlob(3, signerOf(3), "s"+keyOf+stateOf(3)+x)
		for _, path := range append(slices.Concat(paths, wrongPaths), "anna/note", "anna/notesx", "t\x01\x02hi", "hi") {
			for _, epoch := range []int{3, 5, 7} {
				a := fair(b, epoch)
				a.path = path
				if _, e := opened(t, a); e == api.OK {
					read++
				} else {
					not++
				}
			}
		}
	}
	want := (len(paths) + len(wrongPaths) + 3) * len(someContents)
	want += 5 // of the pairs of other terms that are two texts, too
	if read != 3*want || not < 10000 {
		t.Error(read, 3*want, not)
	}
}

// I3: contents have at most 64 bytes, whoever signed them.
func TestOpenOfManyBytes(t *testing.T) {
	for many := range 300 {
		contents, want := strings.Repeat("x", many), api.OK
		b := signedBlob(2, signerOf(2), "s"+keyOf+stateOf(2)+"p"+text(here)+text(contents))
		if many > mostWords {
			contents, want = "", api.ErrSig
		}
		opens(t, fair(b, 2), contents, want)
	}
}

// I3: all blobs that are handed in, right or not, at each epoch.
func TestOpenAsItOughtToBe(t *testing.T) {
	for _, b := range append(rightBlobs(), changed()...) {
		for epoch := range lastEpoch + 1 {
			opened(t, fair(b, epoch))
			a := fair(b, epoch)
			a.state = "x"
			opened(t, a)
			a = fair(b, epoch)
			slices.Reverse(a.verify)
			opened(t, a)
		}
	}
}

// I3: of a blob of each epoch, by each epoch's state and as many verifying terms, as each epoch.
func TestOpenOfEachEpoch(t *testing.T) {
	for of := range lastEpoch + 1 {
		b, _ := hi(of).ought()
		for state := range lastEpoch + 1 {
			for many := range 10 {
				for epoch := -1; epoch <= lastEpoch+1; epoch++ {
					a := asked{b, slices.Repeat([]string{"u" + signerOf(of)}, many), stateOf(state), epoch, here}
					contents, want := "", api.ErrSig
					switch {
					case epoch < 0 || epoch > lastEpoch || many != epoch+1:
						want = api.ErrArg
					case state == epoch && of <= epoch:
						contents, want = "hi", api.OK
					}
					opens(t, a, contents, want)
				}
			}
		}
	}
}

// I3: what is wrong is told ahead of all that is signed or sealed in another way.
func TestOpenOfWhatIsWrong(t *testing.T) {
	b, _ := hi(3).ought()
	other := b
	other.Sig = "ga\x00t\x00"
	for _, ground := range []asked{fair(b, 3), fair(b, 7), fair(b, 2), fair(other, 5), {b, verifyUpTo(4), deep, 4, ""}, {b, []string{"", "", "", ""}, root, 3, "x"}} {
		opened(t, ground)
		for _, x := range wrongEpochs {
			a := ground
			a.epoch = x
			opens(t, a, "", api.ErrArg)
			a = ground
			a.b.Epoch = x
			opens(t, a, "", api.ErrArg)
		}
		for _, x := range wrongTerms {
			a := ground
			a.state = x
			opens(t, a, "", api.ErrArg)
			a = ground
			a.b.Sealed = x
			opens(t, a, "", api.ErrArg)
			a = ground
			a.b.Sig = x
			opens(t, a, "", api.ErrArg)
		}
		for many := range 10 {
			if many != ground.epoch+1 {
				a := ground
				a.verify = slices.Repeat([]string{"u" + signerOf(3)}, many)
				opens(t, a, "", api.ErrArg)
			}
		}
	}
}

// I3: each term as the verifying one, and as the state.
func TestOpenWithEachTerm(t *testing.T) {
	for _, epoch := range []int{0, 3, 7} {
		b, _ := hi(epoch).ought()
		for _, x := range terms() {
			for _, later := range []int{epoch, lastEpoch} {
				a := fair(b, later)
				a.verify[epoch] = x
				opens(t, a, "", api.ErrSig)
				a = fair(b, later)
				for i := range a.verify {
					if i != epoch {
						a.verify[i] = x
					}
				}
				opens(t, a, "hi", api.OK)
				a = fair(b, later)
				a.state = x
				opened(t, a)
			}
			g := hi(epoch)
			g.state, g.signer = x, x
			if b, e := g.build(); e == api.OK {
				a := fair(b, epoch)
				a.state, a.verify[epoch] = x, "u"+x
				opens(t, a, "hi", api.OK)
			}
		}
	}
}

// I3: states that are too deep to go back from, or to make a key of, and blobs too great to be signed, are no other error.
func TestOpenOfGreatTerms(t *testing.T) {
	for many := range 40 {
		state := strings.Repeat("h", many) + root
		for of := range lastEpoch + 1 {
			b, e := given{state, of, signerOf(of), here, "hi"}.build()
			if e != api.OK {
				b, _ = hi(of).build()
			}
			for epoch := of; epoch <= lastEpoch; epoch++ {
				a := fair(b, epoch)
				a.state = state
				contents, want := "", api.ErrSig
				if e == api.OK && epoch == of || e != api.OK && state == stateOf(epoch) {
					contents, want = "hi", api.OK
				}
				opens(t, a, contents, want)
			}
		}
	}
	for _, sealed := range []string{"s" + deep[1:] + "t\x00", "sa\x00" + deep[1:], "sa\x00" + words(3993), "sa\x00" + words(3990), "sa\x00" + words(3988)} {
		for _, sig := range []string{"ga\x00t\x00", "ga\x00" + words(3993)} {
			opens(t, asked{data.Blob{Epoch: 0, Sealed: sealed, Sig: sig}, []string{"ua\x00"}, "a\x00", 0, here}, "", api.ErrSig)
		}
	}
}
