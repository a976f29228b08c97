package writer_test

import (
	"strings"

	"letterlock/api"
	"letterlock/data"
	"letterlock/name"
	"letterlock/reader"
	"letterlock/term"
)

// The chapter's words, and those of the chapters that it calls, once more and from them alone, for the
// tests to hold the package against: terms and bytes are put together by hand, and looked at when all
// of them are there; only what bytes hold data tells.

const (
	lastEpoch = 7
	mostWords = 64
	anyKind   = "atphsubg"
	keyOf     = "hpt\x01\x03key" // and the state behind it
)

func oughtSeal(k reader.Keys, contents string) (string, api.Errno) {
	if k.Signer == "" {
		return "", api.ErrDenied
	}
	if !isEpoch(k.Epoch) || !isTerm(k.State, anyKind) || !isTerm(k.Signer, anyKind) || !isPath(k.Path) {
		return "", api.ErrArg
	}
	if len(contents) > mostWords {
		return "", api.ErrBig
	}
	sealed := sealedOf(k.State, k.Path, contents)
	sig := "g" + k.Signer + "pa" + number(uint64(k.Epoch)) + sealed
	if !isTerm(sig, "g") { // all other terms that are made are parts of it
		return "", api.ErrBig
	}
	return row(number(uint64(k.Epoch)), sealed, sig), api.OK
}

// oughtOpen is what reader tells of a blob, and beside it the blob's epoch.
func oughtOpen(k reader.Keys, blob string) (string, int, api.Errno) {
	b, e := data.Take(blob)
	if e != api.OK {
		return "", 0, api.ErrForm
	}
	if !isTerm(k.State, anyKind) || !isEpoch(k.Epoch) || len(k.Verify) != k.Epoch+1 {
		return "", 0, api.ErrArg
	}
	if b.Epoch > k.Epoch {
		return "", 0, api.ErrSig
	}
	public := k.Verify[b.Epoch]
	if !isTerm(public, "u") || b.Sig != "g"+public[1:]+"pa"+number(uint64(b.Epoch))+b.Sealed {
		return "", 0, api.ErrSig
	}
	state := strings.Repeat("h", k.Epoch-b.Epoch) + k.State
	for many := range mostWords + 1 {
		if contents := b.Sealed[max(0, len(b.Sealed)-many):]; b.Sealed == sealedOf(state, k.Path, contents) {
			return contents, b.Epoch, api.OK
		}
	}
	return "", 0, api.ErrSig
}

func oughtBehind(k reader.Keys, blob string) bool {
	_, epoch, e := oughtOpen(k, blob)
	return e == api.OK && epoch < k.Epoch
}

func oughtRenew(k reader.Keys, blob string) (string, bool, api.Errno) {
	contents, epoch, e := oughtOpen(k, blob)
	if e != api.OK {
		return "", false, e
	}
	if epoch == k.Epoch {
		return blob, false, api.OK
	}
	s, e := oughtSeal(k, contents)
	return s, e == api.OK, e
}

// sealedOf is what is sealed with a state's key.
func sealedOf(state, path, contents string) string {
	return "s" + keyOf + state + "p" + text(path) + text(contents)
}

func isEpoch(n int) bool { return 0 <= n && n <= lastEpoch }

// isTerm tells whether t is a right term, whole, of one of these kinds.
func isTerm(t, kinds string) bool {
	x, behind, e := term.Read(t)
	return e == api.OK && x == t && behind == "" && strings.Contains(kinds, t[:1])
}

// isPath tells whether s is two names with a slash between.
func isPath(s string) bool {
	at := strings.IndexByte(s, '/')
	return at >= 0 && name.Right(s[:at]) && name.Right(s[at+1:])
}

// number is a number's bytes, row a row's, text a text's term.
func number(n uint64) string {
	s := ""
	for ; n > 0; n /= 256 {
		s = string([]byte{byte(n % 256)}) + s
	}
	return string([]byte{byte(len(s))}) + s
}

func row(l ...string) string {
	var b strings.Builder
	b.WriteString(number(uint64(len(l))))
	for _, t := range l {
		b.WriteString(number(uint64(len(t))) + t)
	}
	return b.String()
}

func text(s string) string { return "t" + number(uint64(len(s))) + s }
