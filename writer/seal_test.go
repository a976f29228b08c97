package writer_test

import (
	"slices"
	"strings"
	"testing"

	"letterlock/api"
	"letterlock/reader"
)

// Q1: bytes of contents, written out.
func TestSeal(t *testing.T) {
	for i, c := range []struct {
		k              reader.Keys
		contents, want string
	}{
		{reader.Keys{Path: "a/b", Epoch: 0, State: "a\x01\x09", Signer: "a\x01\x07"}, "", "\x01\x03" + "\x01\x01\x00" + "\x01\x15shpt\x01\x03keya\x01\x09pt\x01\x03a/bt\x00" + "\x01\x1cga\x01\x07pa\x00shpt\x01\x03keya\x01\x09pt\x01\x03a/bt\x00"},
		{keysAt(4), "hi", "\x01\x03" + "\x01\x02\x01\x04" + "\x01\x22shpt\x01\x03keyhhha\x01\x09pt\x01\x0aanna/notest\x01\x02hi" + "\x01\x2aga\x01\x18pa\x01\x04shpt\x01\x03keyhhha\x01\x09pt\x01\x0aanna/notest\x01\x02hi"},
		{reader.Keys{Path: "\u00df/\u044f", Epoch: 7, State: "t\x00", Signer: "ua\x00"}, "\xff\x00", "\x01\x03" + "\x01\x02\x01\x07" + "\x01\x19shpt\x01\x03keyt\x00pt\x01\x05\xc3\x9f/\xd1\x8ft\x01\x02\xff\x00" + "\x01\x21gua\x00pa\x01\x07shpt\x01\x03keyt\x00pt\x01\x05\xc3\x9f/\xd1\x8ft\x01\x02\xff\x00"},
	} {
		if s, e := sealed(t, c.k, c.contents); s != c.want || e != api.OK {
			t.Errorf("%d: %q, %v, not %q", i, s, e, c.want)
		}
	}
}

// Q1: who has no signer may not write, whatever else is handed in; who has one is told what else is wrong.
func TestSealWithoutSigner(t *testing.T) {
	seals(t, reader.Keys{}, "", api.ErrDenied)
	for epoch := range lastEpoch + 1 {
		for _, contents := range slices.Concat(someContents, tooMuch) {
			for _, change := range keyChanges() {
				k := keysAt(epoch)
				change(&k)
				k.Signer = ""
				seals(t, k, contents, api.ErrDenied)
			}
		}
	}
	for _, x := range wrongTerms {
		k := keysAt(3)
		k.Signer = x
		seals(t, k, "hi", api.ErrArg)
	}
	for _, x := range []string{"t\x00", "a\x00", "t\x01\x02me", "ua\x00", "pa\x00t\x00", "ga\x00t\x00", "hhha\x00"} { // a text is a signer, too, if it is held as one
		k := keysAt(3)
		k.Signer = x
		seals(t, k, "hi", api.OK)
	}
}

// Q1: each epoch, path and contents.
func TestSealOfAllContents(t *testing.T) {
	for epoch := range lastEpoch + 1 {
		for _, path := range paths {
			k := keysAt(epoch)
			k.Path = path
			for _, contents := range someContents {
				seals(t, k, contents, api.OK)
			}
			for _, contents := range tooMuch {
				seals(t, k, contents, api.ErrBig)
			}
		}
		for _, path := range wrongPaths {
			k := keysAt(epoch)
			k.Path = path
			for _, contents := range slices.Concat(someContents, tooMuch) {
				seals(t, k, contents, api.ErrArg)
			}
		}
	}
	for many := range 2 * mostWords {
		want := api.OK
		if many > mostWords {
			want = api.ErrBig
		}
		seals(t, keysAt(2), strings.Repeat("y", many), want)
	}
}

// Q1: epochs that are none, and states that are no right terms.
func TestSealOfWrongKeys(t *testing.T) {
	for _, epoch := range wrongEpochs {
		k := keysAt(3)
		k.Epoch = epoch
		seals(t, k, "hi", api.ErrArg)
	}
	for _, x := range append(wrongTerms[:len(wrongTerms):len(wrongTerms)], "") {
		k := keysAt(3)
		k.State = x
		seals(t, k, "hi", api.ErrArg)
	}
}

// Q1: terms that are just not, and just, too deep or too long.
func TestSealOfGreatTerms(t *testing.T) {
	for hashes := 30; hashes < 40; hashes++ {
		k := keysAt(3)
		k.State = strings.Repeat("h", hashes) + "a\x00"
		want := api.OK
		if hashes > 34 { // signed, paired, sealed, hashed, paired: five parts are around it
			want = api.ErrBig
		}
		seals(t, k, "hi", want)
		k = keysAt(3)
		k.Signer = strings.Repeat("h", hashes) + "a\x00"
		want = api.OK
		if hashes > 38 { // signed
			want = api.ErrBig
		}
		seals(t, k, "hi", want)
	}
	for long := 3900; long < 3997; long++ {
		for _, contents := range []string{"", "hi", strings.Repeat("x", mostWords)} {
			around := len("g") + len(signerOf(3)) + len("pa\x01\x03") + len(sealedOf("", here, contents))
			k := keysAt(3)
			k.State = words(long)
			want := api.OK
			if around+len(k.State) > 4000 {
				want = api.ErrBig
			}
			seals(t, k, contents, want)
			k = keysAt(3)
			k.Signer = words(long)
			want = api.OK
			if around-len(signerOf(3))+len(k.State)+len(k.Signer) > 4000 {
				want = api.ErrBig
			}
			seals(t, k, contents, want)
		}
	}
}

// Q1: of several errors the one that is named first is told.
func TestWhichErrorOfSeal(t *testing.T) {
	type writes struct {
		k        reader.Keys
		contents string
	}
	spoil := []struct {
		change func(w *writes)
		e      api.Errno
	}{
		{func(w *writes) { w.k.Signer = "" }, api.ErrDenied},
		{func(w *writes) { w.k.Epoch = 8 }, api.ErrArg},
		{func(w *writes) { w.k.State = "x" }, api.ErrArg},
		{func(w *writes) { w.k.Path = "notes" }, api.ErrArg},
		{func(w *writes) { w.contents = tooMuch[0] }, api.ErrBig},
		{func(w *writes) { w.k.Signer = deep }, api.ErrBig},
		{func(w *writes) { w.k.Verify = nil }, api.OK},
	}
	for ways := range 1 << len(spoil) {
		w, want := writes{keysAt(3), "hi"}, api.OK
		for i := len(spoil) - 1; i >= 0; i-- {
			if ways&(1<<i) != 0 {
				spoil[i].change(&w)
				if spoil[i].e != api.OK {
					want = spoil[i].e
				}
			}
		}
		seals(t, w.k, w.contents, want)
	}
}

// Q1: the terms that verify are nothing to who seals.
func TestSealAsksNoVerify(t *testing.T) {
	want := written(t, keysAt(3), "hi")
	for _, l := range [][]string{nil, {}, {"x"}, {"ua\x00"}, slices.Repeat([]string{""}, 100), {"a\x00", "a\x00", "a\x00", "a\x00"}} {
		k := keysAt(3)
		k.Verify = l
		if s := written(t, k, "hi"); s != want {
			t.Errorf("%q: %q", l, s)
		}
	}
}

// Q1: keys of which one part is another one: all as the words ask.
func TestSealAsItOughtToBe(t *testing.T) {
	told := map[api.Errno]int{}
	for epoch := range lastEpoch + 1 {
		for _, change := range keyChanges() {
			for _, contents := range append(someContents[:len(someContents):len(someContents)], tooMuch[0]) {
				k := keysAt(epoch)
				change(&k)
				_, e := sealed(t, k, contents)
				told[e]++
			}
		}
	}
	for _, e := range []api.Errno{api.OK, api.ErrDenied, api.ErrArg, api.ErrBig} {
		if told[e] < 200 {
			t.Error(told)
		}
	}
}
