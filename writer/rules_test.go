package writer_test

import (
	"slices"
	"strings"
	"testing"

	"letterlock/api"
	"letterlock/reader"
	"letterlock/writer"
)

// P1: great texts and lists are refused, or left, and each call ends soon.
func TestGreatInputs(t *testing.T) {
	long := strings.Repeat("h", 1<<22)
	many := slices.Repeat([]string{long}, 1<<20)
	was, is := written(t, keysAt(1), "hi"), written(t, keysAt(3), "hi")
	seals(t, keysAt(3), long, api.ErrBig)
	for i, c := range []struct {
		change           func(k *reader.Keys)
		seal, renew, not api.Errno // of was, and of is
	}{
		{func(k *reader.Keys) { k.State = long }, api.ErrArg, api.ErrArg, api.ErrArg},
		{func(k *reader.Keys) { k.Signer = long }, api.ErrArg, api.ErrArg, api.OK},
		{func(k *reader.Keys) { k.Path = long }, api.ErrArg, api.ErrSig, api.ErrSig},
		{func(k *reader.Keys) { k.Path = "anna/" + long }, api.ErrArg, api.ErrSig, api.ErrSig},
		{func(k *reader.Keys) { k.Verify = many }, api.OK, api.ErrArg, api.ErrArg},
		{func(k *reader.Keys) { k.Verify = many[:4] }, api.OK, api.ErrSig, api.ErrSig},
		{func(k *reader.Keys) { k.Epoch, k.Verify = 1<<20-1, many }, api.ErrArg, api.ErrArg, api.ErrArg},
	} {
		k := keysAt(3)
		c.change(&k)
		_, e := writer.Seal(k, "hi")
		_, _, f := writer.Renew(k, was)
		_, _, g := writer.Renew(k, is)
		if e != c.seal || f != c.renew || g != c.not || writer.Behind(k, is) {
			t.Errorf("%d: %v, %v, %v", i, e, f, g)
		}
		for _, blob := range []string{long, was + long, row(long, long, long), row("\x01\x01", "s"+long, "g"+long)} {
			if s, changed, e := writer.Renew(k, blob); s != "" || changed || e != api.ErrForm || writer.Behind(k, blob) {
				t.Errorf("%d: %v", i, e)
			}
		}
	}
}

// P1, P2: whatever is handed in, nothing panics, and with an error nothing else is told.
func TestAnything(t *testing.T) {
	texts := slices.Concat(wrongTerms, rightTerms[:13], []string{"", here, "anna", stateOf(3), signerOf(3), "u" + signerOf(3), tooMuch[0]})
	var blobs []string
	for epoch := range lastEpoch + 1 {
		blobs = append(blobs, written(t, keysAt(epoch), "hi"))
	}
	d := &dice{5}
	one := func() string { return texts[d.roll(len(texts))] }
	for range 30000 {
		k := keysAt(d.roll(8))
		switch d.roll(8) {
		case 0:
			k = reader.Keys{Path: one(), Epoch: d.roll(10) - 1, State: one(), Signer: one(), Verify: []string{one(), one()}}
		case 1:
			k.State = one()
		case 2:
			k.Signer = one()
		case 3:
			k.Path = one()
		case 4:
			k.Epoch = wrongEpochs[d.roll(len(wrongEpochs))]
		case 5:
			k.Verify[d.roll(len(k.Verify))] = one()
		}
		sealed(t, k, one())
		for _, s := range []string{one(), row(one(), one(), one()), blobs[d.roll(8)], blobs[d.roll(8)]} {
			if got, changed, e := renewed(t, k, s); e != api.OK && (got != "" || changed) {
				t.Fatalf("%q, %v, %v", got, changed, e)
			}
			isBehind(t, k, s)
		}
	}
}

// P3: what lies in and behind a list that is handed in is neither written into, nor read.
func TestListIsLeft(t *testing.T) {
	for of := range lastEpoch + 1 {
		s := written(t, keysAt(of), "hi")
		for epoch := range lastEpoch + 1 {
			k := keysAt(epoch)
			whole := slices.Concat(k.Verify, keysAt(lastEpoch).Verify, []string{"x", ""})
			kept := slices.Clone(whole)
			for many := range len(whole) {
				k.Verify = whole[:many]
				seals(t, k, "hi", api.OK)
				_, _, e := renewed(t, k, s)
				if isBehind(t, k, s) != (many == epoch+1 && of < epoch) || (e == api.ErrArg) != (many != epoch+1) {
					t.Errorf("%d, %d, %d: %v", of, epoch, many, e)
				}
			}
			if !slices.Equal(whole, kept) {
				t.Fatalf("%q: written into", whole)
			}
		}
	}
}

// P5: a list of nothing is the same, nil or empty.
func TestListOfNothing(t *testing.T) {
	s := written(t, keysAt(0), "hi")
	for _, l := range [][]string{nil, {}, keysAt(0).Verify[:0]} {
		k := keysAt(0)
		k.Verify = l
		seals(t, k, "hi", api.OK)
		renews(t, k, s, "", false, api.ErrArg)
		renews(t, k, "x", "", false, api.ErrForm)
	}
}

// P4: the same is told again, whatever was asked between, and whatever erred.
func TestTheSameAgain(t *testing.T) {
	type told struct {
		sealed, renewed string
		changed, behind bool
		e, f            api.Errno
	}
	changes := keyChanges()
	tell := func(i int) (x told) {
		k := keysAt(i % 8)
		changes[i%len(changes)](&k)
		blob, _ := oughtSeal(keysAt(i/8%8), "hi")
		x.sealed, x.e = writer.Seal(k, someContents[i%len(someContents)])
		x.renewed, x.changed, x.f = writer.Renew(k, blob)
		x.behind = writer.Behind(k, blob)
		return x
	}
	var first []told
	for i := range 2000 {
		first = append(first, tell(i))
	}
	for i := len(first) - 1; i >= 0; i-- {
		if x := tell(i); x != first[i] {
			t.Errorf("%d: %s, not %s", i, show(x), show(first[i]))
		}
	}
}
