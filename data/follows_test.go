package data_test

import (
	"slices"
	"testing"

	"letterlock/api"
	"letterlock/closure"
	"letterlock/data"
	"letterlock/draw"
	"letterlock/regress"
	"letterlock/term"
)

// sure is what a call of a layer ahead answers.
func sure(t *testing.T, s string, e api.Errno) string {
	t.Helper()
	if e != api.OK {
		t.Fatal(e)
	}
	return s
}

// file is a file's secrets, drawn: its root, and who signs contents of each epoch.
type file struct {
	path    string
	root    string
	signers []string
}

func newFile(t *testing.T, path string, seed uint64) file {
	t.Helper()
	d := draw.New(seed)
	s, e := draw.Secret("root", path, d.Next())
	f := file{path: path, root: sure(t, s, e)}
	for range lastEpoch + 1 {
		s, e := draw.Secret("sign", path, d.Next())
		f.signers = append(f.signers, sure(t, s, e))
	}
	return f
}

func (f file) state(t *testing.T, epoch int) string {
	t.Helper()
	s, e := regress.State(f.root, epoch)
	return sure(t, s, e)
}

func (f file) verify(t *testing.T, epoch int) []string {
	t.Helper()
	var l []string
	for _, x := range f.signers[:epoch+1] {
		s, e := term.OfPublic(x)
		l = append(l, sure(t, s, e))
	}
	return l
}

func (f file) write(t *testing.T, epoch int, contents string) data.Blob {
	t.Helper()
	b, e := data.Build(f.state(t, epoch), epoch, f.signers[epoch], f.path, contents)
	if e != api.OK || !data.Right(b) {
		t.Fatal(show(b), e)
	}
	return b
}

// I2, I4: what was built is right, and taken as it was put.
func TestWhatWasBuiltIsTaken(t *testing.T) {
	for i, path := range paths {
		f := newFile(t, path, uint64(i))
		for epoch := range lastEpoch + 1 {
			for _, contents := range someContents {
				b := f.write(t, epoch, contents)
				s, e := data.Put(b)
				taken(t, sure(t, s, e), b)
			}
		}
	}
}

// I4: who has the state of that epoch, or of a later one, and the verifying terms, opens it; nobody does otherwise.
func TestWhoOpens(t *testing.T) {
	f, g := newFile(t, here, 1), newFile(t, "anna/letters", 2)
	for of := range lastEpoch + 1 {
		b := f.write(t, of, someContents[of])
		for epoch := range lastEpoch + 1 {
			state, verify := f.state(t, epoch), f.verify(t, epoch)
			contents, want := "", api.ErrSig
			if epoch >= of {
				contents, want = someContents[of], api.OK
			}
			opens(t, asked{b, verify, state, epoch, here}, contents, want)
			opens(t, asked{b, verify, state, epoch, g.path}, "", api.ErrSig)
			opens(t, asked{b, g.verify(t, epoch), state, epoch, here}, "", api.ErrSig)
			opens(t, asked{b, verify, g.state(t, epoch), epoch, here}, "", api.ErrSig)
			for other := range lastEpoch + 1 {
				if other != epoch {
					opens(t, asked{b, verify, f.state(t, other), epoch, here}, "", api.ErrSig)
				}
			}
			if epoch >= of && of > 0 {
				verify[of], verify[of-1] = verify[of-1], verify[of]
				opens(t, asked{b, verify, state, epoch, here}, "", api.ErrSig)
			}
		}
	}
}

// I4: what was signed by another one, or says another epoch, is not opened, though all else is as it must be.
func TestSignedByAnother(t *testing.T) {
	f, g := newFile(t, here, 3), newFile(t, here, 4)
	for of := range lastEpoch + 1 {
		signers := append([]string{"t\x00", "a\x00", f.root, f.state(t, of), "u" + f.signers[of], "h" + f.signers[of]}, g.signers...)
		for at, s := range f.signers {
			if at != of {
				signers = append(signers, s)
			}
		}
		for _, signer := range signers {
			b, e := data.Build(f.state(t, of), of, signer, here, "hi")
			if e != api.OK {
				t.Fatal(e)
			}
			for epoch := of; epoch <= lastEpoch; epoch++ {
				opens(t, asked{b, f.verify(t, epoch), f.state(t, epoch), epoch, here}, "", api.ErrSig)
			}
		}
		b := f.write(t, of, "hi")
		for said := range lastEpoch + 1 {
			if said == of {
				continue
			}
			b.Epoch = said
			for epoch := range lastEpoch + 1 {
				same := slices.Repeat(f.verify(t, of)[of:], epoch+1) // of one who signs at each epoch
				opens(t, asked{b, same, f.state(t, epoch), epoch, here}, "", api.ErrSig)
				opens(t, asked{b, same, f.state(t, of), epoch, here}, "", api.ErrSig)
			}
		}
	}
}

// tells tells whether who holds those terms can put that one together.
func tells(t *testing.T, held []string, x string) bool {
	t.Helper()
	told, e := closure.Derives(held, x)
	if e != api.OK {
		t.Fatal(e)
	}
	return told
}

// I4: what is held beside blobs of all epochs: contents are told to who holds a state that leads to theirs, and to nobody else.
func TestWhatIsHidden(t *testing.T) {
	f, g := newFile(t, here, 5), newFile(t, here, 6)
	var found []string
	for epoch := range lastEpoch + 1 {
		b := f.write(t, epoch, someContents[epoch])
		found = append(found, b.Sealed, b.Sig, g.state(t, epoch))
	}
	found = append(found, f.verify(t, lastEpoch)...)
	found = append(found, g.signers...)
	for from := -1; from <= lastEpoch; from++ {
		for _, more := range [][]string{nil, f.signers} {
			held := append(slices.Clone(found), more...)
			if from >= 0 {
				held = append(held, f.state(t, from))
			}
			had, e := closure.Apart(held)
			if e != api.OK {
				t.Fatal(e)
			}
			for epoch := range lastEpoch + 1 {
				inside := "p" + text(here) + text(someContents[epoch])
				if slices.Contains(had, inside) != (epoch <= from) {
					t.Errorf("who holds the state of %d, and %d others: contents of %d: not %v", from, len(more), epoch, epoch <= from)
				}
			}
		}
	}
}

// I4: a blob that is opened can be put together by who holds the signer, and the state, or one that leads to it; by nobody else.
func TestWhoCanWrite(t *testing.T) {
	f := newFile(t, here, 7)
	var found []string
	for epoch := range lastEpoch + 1 {
		b := f.write(t, epoch, "hi")
		found = append(found, b.Sealed, b.Sig)
	}
	found = append(found, f.verify(t, lastEpoch)...)
	for epoch := range lastEpoch + 1 {
		b := f.write(t, epoch, "ho")
		for state := range lastEpoch + 1 {
			reader := append(slices.Clone(found), f.state(t, state))
			if tells(t, reader, b.Sig) || tells(t, reader, f.signers[epoch]) {
				t.Errorf("who holds the state of %d can write at %d", state, epoch)
			}
			for signer := range lastEpoch + 1 {
				writer := append(slices.Clone(reader), f.signers[signer])
				if want := signer == epoch && state >= epoch; tells(t, writer, b.Sig) != want {
					t.Errorf("who holds the state of %d and the signer of %d can write at %d: not %v", state, signer, epoch, want)
				}
			}
		}
		if tells(t, append(slices.Clone(found), f.signers...), b.Sig) {
			t.Errorf("who holds signers alone can write at %d", epoch)
		}
	}
}

// dice rolls the same numbers each time.
type dice struct{ n uint64 }

func (d *dice) roll(below int) int {
	d.n = d.n*6364136223846793005 + 1442695040888963407
	return int(d.n>>33) % below
}

// I1, I3, I4: blobs by dice, opened with what dice say: just as the words say, and so opened just if all is as it must be.
func TestByDice(t *testing.T) {
	d, opened := &dice{9}, 0
	files := []file{newFile(t, here, 10), newFile(t, "anna/letters", 11)}
	for range 20000 {
		f, g := files[d.roll(2)], files[d.roll(8)/7]
		of, epoch, said := d.roll(8), d.roll(8), d.roll(8)
		contents := someContents[d.roll(len(someContents))]
		b, e := built(t, given{f.state(t, of), of, f.signers[of], f.path, contents})
		if e != api.OK {
			t.Fatal(e)
		}
		state, verify, path := epoch, epoch, g.path
		switch d.roll(8) {
		case 0:
			state = d.roll(8)
		case 1:
			verify = d.roll(8)
		case 2:
			path = files[d.roll(2)].path
		case 3:
			b.Epoch = said
		}
		a := asked{b, g.verify(t, verify), g.state(t, state), epoch, path}
		want := api.ErrSig
		switch {
		case verify != epoch:
			want, contents = api.ErrArg, ""
		case f.path == g.path && path == f.path && b.Epoch == of && of <= epoch && state == epoch:
			want = api.OK
			opened++
		default:
			contents = ""
		}
		opens(t, a, contents, want)
	}
	if opened < 3000 {
		t.Error(opened)
	}
}
