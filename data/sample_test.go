package data_test

import (
	"slices"
	"strings"

	"letterlock/data"
	"letterlock/draw"
)

const (
	root = "a\x01\x09"
	here = "anna/notes"
)

// longest is a name of the most runes, of the most bytes.
var longest = strings.Repeat("\u044f", 32)

// deep is a right term that no other can be made of.
var deep = strings.Repeat("h", 39) + "a\x01\x08"

// words is a term that is a text of more than 255 bytes.
func words(long int) string { return text(strings.Repeat("x", long)) }

// wrongTerms are texts that are no right term, whole.
var wrongTerms = []string{"", "x", "a", "a\x01", "a\x01\x00", "a\x00x", "pa\x00", "t\x01\x02a", "ba\x00a\x00", "h" + deep, words(3997), "\xff", " a\x00"}

// rightTerms are right terms of each kind, flat and deep, short and long.
var rightTerms = []string{
	"a\x00", "a\x01\x05", "t\x00", "t\x01\x02hi", "pa\x00t\x00", "ha\x00", "sa\x00a\x01\x01", "ua\x01\x01", "uua\x00", "bua\x00a\x00", "bua\x01\x02pt\x00t\x00",
	"ga\x00t\x00", "ga\x01\x01t\x01\x01x", deep, "u" + deep[1:], "g" + deep[1:] + "t\x00", "s" + deep[1:] + "t\x00", "sa\x00" + deep[1:], words(3996), "u" + words(3995), "sa\x00" + words(3993), "ga\x00" + words(3993),
}

// terms are all of these.
func terms() []string { return slices.Concat(wrongTerms, rightTerms) }

// paths are right ones; wrongPaths are none.
var paths = []string{here, "a/b", "b/a", "-/-", "0/9", "anna/anna", "\u00df/\u03c9", longest + "/" + longest}

var wrongPaths = []string{
	"", "/", "anna", "anna/", "/notes", "anna//notes", "anna/notes/", "/anna/notes", "anna/notes/x", "annanotes", "Anna/notes", "anna/Notes", "anna/no tes", "anna\\notes", "anna/\xff", "\xff/notes", "anna/notes\x00",
	longest + "\u044f/notes", "anna/" + longest + "\u044f", "\u00f7/notes", "anna/\u0450",
}

// someContents are of few and of many bytes, and of such as are no runes.
var someContents = []string{
	"", "hi", "\x00", "\xff\xfe", here, "t\x01\x02hi", "a\nb", strings.Repeat("x", mostWords), strings.Repeat("\x80", mostWords), strings.Repeat("\u044f", mostWords/2),
}

// tooMuch are contents of too many bytes, some of them of few runes.
var tooMuch = []string{strings.Repeat("x", mostWords+1), strings.Repeat("\u044f", mostWords/2) + "x", strings.Repeat("\u044f", mostWords/2+1), strings.Repeat("x", 128), strings.Repeat("x", 4000), strings.Repeat("x", 1<<20)}

// wrongEpochs are none.
var wrongEpochs = []int{-1, 8, 9, 255, 256, 1 << 32, 1<<63 - 1, -8, -1 << 32, -1 << 63}

// stateOf is the state of an epoch, in the chain of root.
func stateOf(epoch int) string { return strings.Repeat("h", lastEpoch-epoch) + root }

// signerOf is the secret that signs contents of an epoch.
func signerOf(epoch int) string {
	s, _ := draw.Secret("sign", here, uint64(100+epoch))
	return s
}

// verifyUpTo are the public terms of all signers up to that of an epoch.
func verifyUpTo(epoch int) []string {
	var l []string
	for i := range epoch + 1 {
		l = append(l, "u"+signerOf(i))
	}
	return l
}

// hi is what contents of an epoch can be built of.
func hi(epoch int) given { return given{stateOf(epoch), epoch, signerOf(epoch), here, "hi"} }

// fair is how a blob of an epoch is opened by who has the state of that one or of a later one.
func fair(b data.Blob, epoch int) asked {
	return asked{b, verifyUpTo(epoch), stateOf(epoch), epoch, here}
}

// insides are what a blob may hold, signed as it must be, though nobody builds it so: some can be opened.
func insides() []string {
	l := slices.Clone(rightTerms)
	for _, where := range append(slices.Concat(paths, wrongPaths), "anna/note", "anna/notesx", "t\x01\x02hi") {
		for _, x := range slices.Concat(someContents, tooMuch[:5]) {
			l = append(l, "p"+text(where)+text(x))
		}
	}
	for _, x := range rightTerms {
		l = append(l, "p"+text(here)+x, "p"+x+text("hi"), "pp"+text(here)+text("hi")+x)
	}
	for _, kind := range []string{"s", "b", "g", "bu", "h", "u", "hp", "up"} { // of the same parts, but no pair
		l = append(l, kind+text(here)+text("hi"))
	}
	return append(l, "p"+text("hi")+text(here), "p"+text(here)+"p"+text("hi")+text(""), "p"+text(here)+"h"+text("hi"))
}

// rightBlobs are right ones: built ones, and some that nobody would build.
func rightBlobs() []data.Blob {
	var l []data.Blob
	for epoch := range lastEpoch + 1 {
		b, _ := hi(epoch).ought()
		l = append(l, b)
	}
	for _, x := range insides() {
		if b := signedBlob(3, signerOf(3), "s"+keyOf+stateOf(3)+x); oughtRight(b) {
			l = append(l, b)
		}
	}
	for _, x := range rightTerms {
		for _, b := range []data.Blob{{Epoch: 0, Sealed: x, Sig: "ga\x00a\x00"}, {Epoch: lastEpoch, Sealed: "sa\x00a\x00", Sig: x}, {Epoch: 2, Sealed: x, Sig: x}} {
			if oughtRight(b) {
				l = append(l, b)
			}
		}
	}
	return l
}

// changed are blobs of each epoch, each with one change: some right, some not.
func changed() []data.Blob {
	var l []data.Blob
	for epoch := range lastEpoch + 1 {
		b, _ := hi(epoch).ought()
		change := func(f func(x *data.Blob)) {
			x := b
			f(&x)
			l = append(l, x)
		}
		for _, n := range append([]int{0, 1, 2, 3, 4, 5, 6, 7}, wrongEpochs...) {
			change(func(x *data.Blob) { x.Epoch = n })
		}
		for _, t := range terms() {
			change(func(x *data.Blob) { x.Sealed = t })
			change(func(x *data.Blob) { x.Sig = t })
			change(func(x *data.Blob) { x.Sealed, x.Sig = "s"+t+"a\x00", "g"+t+"a\x00" })
		}
		for _, t := range []string{b.Sealed, b.Sig, "s" + b.Sealed[1:len(b.Sealed)-1], b.Sig + "\x00", b.Sealed + "x", b.Sig[1:], "p" + b.Sealed[1:], "p" + b.Sig[1:], "s" + b.Sig[1:], "g" + b.Sealed[1:]} {
			change(func(x *data.Blob) { x.Sealed = t })
			change(func(x *data.Blob) { x.Sig = t })
		}
		change(func(x *data.Blob) { x.Sealed, x.Sig = x.Sig, x.Sealed })
		change(func(x *data.Blob) { *x = data.Blob{} })
		change(func(x *data.Blob) { *x = data.Blob{Epoch: epoch} })
	}
	return l
}
