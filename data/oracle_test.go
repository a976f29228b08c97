package data_test

import (
	"fmt"
	"strings"

	"letterlock/api"
	"letterlock/data"
	"letterlock/name"
	"letterlock/term"
)

// The chapter's words, once more and from them alone, for the tests to hold the package against:
// terms and bytes are put together by hand, and looked at when all of them are there.

const (
	lastEpoch = 7
	mostWords = 64
	anyKind   = "atphsubg"
	keyOf     = "hpt\x01\x03key" // and the state behind it
)

// given is what a blob is built of.
type given struct {
	state          string
	epoch          int
	signer         string
	path, contents string
}

func (g given) build() (data.Blob, api.Errno) {
	return data.Build(g.state, g.epoch, g.signer, g.path, g.contents)
}

func (g given) ought() (data.Blob, api.Errno) {
	if !isEpoch(g.epoch) || !isTerm(g.state, anyKind) || !isTerm(g.signer, anyKind) || !isPath(g.path) {
		return data.Blob{}, api.ErrArg
	}
	if len(g.contents) > mostWords {
		return data.Blob{}, api.ErrBig
	}
	b := signedBlob(g.epoch, g.signer, "s"+keyOf+g.state+"p"+text(g.path)+text(g.contents))
	if !isTerm(b.Sig, "g") { // all other terms that are made are parts of it
		return data.Blob{}, api.ErrBig
	}
	return b, api.OK
}

// signedBlob is a blob of anything, signed as it must be.
func signedBlob(epoch int, signer, sealed string) data.Blob {
	return data.Blob{Epoch: epoch, Sealed: sealed, Sig: "g" + signer + signedOf(epoch, sealed)}
}

// signedOf is what is signed of a blob.
func signedOf(epoch int, sealed string) string { return "pa" + number(uint64(epoch)) + sealed }

func oughtRight(b data.Blob) bool {
	return isEpoch(b.Epoch) && isTerm(b.Sealed, "s") && isTerm(b.Sig, "g")
}

// oughtPut is a blob's bytes, whatever it is.
func oughtPut(b data.Blob) string { return row(number(uint64(b.Epoch)), b.Sealed, b.Sig) }

// asked is what a blob is opened with.
type asked struct {
	b      data.Blob
	verify []string
	state  string
	epoch  int
	path   string
}

func (a asked) open() (string, api.Errno) {
	return data.Open(a.b, a.verify, a.state, a.epoch, a.path)
}

func (a asked) ought() (string, api.Errno) {
	if !oughtRight(a.b) || !isTerm(a.state, anyKind) || !isEpoch(a.epoch) || len(a.verify) != a.epoch+1 {
		return "", api.ErrArg
	}
	if a.b.Epoch > a.epoch {
		return "", api.ErrSig
	}
	public := a.verify[a.b.Epoch]
	if !isTerm(public, "u") || a.b.Sig != "g"+public[1:]+signedOf(a.b.Epoch, a.b.Sealed) {
		return "", api.ErrSig
	}
	state := strings.Repeat("h", a.epoch-a.b.Epoch) + a.state
	for many := range mostWords + 1 {
		if contents := a.b.Sealed[max(0, len(a.b.Sealed)-many):]; a.b.Sealed == "s"+keyOf+state+"p"+text(a.path)+text(contents) {
			return contents, api.OK
		}
	}
	return "", api.ErrSig
}

func isEpoch(n int) bool { return 0 <= n && n <= lastEpoch }

// isTerm tells whether t is a right term, whole, of one of these kinds.
func isTerm(t, kinds string) bool {
	x, behind, e := term.Read(t)
	return e == api.OK && x == t && behind == "" && strings.Contains(kinds, t[:1])
}

// isPath tells whether s is two names with a slash between.
func isPath(s string) bool {
	at := strings.IndexByte(s, '/')
	return at >= 0 && name.Right(s[:at]) && name.Right(s[at+1:])
}

// number is a number's bytes, row a row's, text a text's term.
func number(n uint64) string {
	s := ""
	for ; n > 0; n /= 256 {
		s = string([]byte{byte(n % 256)}) + s
	}
	return string([]byte{byte(len(s))}) + s
}

func row(l ...string) string {
	var b strings.Builder
	b.WriteString(number(uint64(len(l))))
	for _, t := range l {
		b.WriteString(number(uint64(len(t))) + t)
	}
	return b.String()
}

func text(s string) string { return "t" + number(uint64(len(s))) + s }

// show is what is handed in, or answered, as a test tells of it, without the far end.
func show(x any) string {
	s := fmt.Sprintf("%+.200q", x)
	return s[:min(400, len(s))]
}
