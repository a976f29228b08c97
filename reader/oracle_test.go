package reader_test

import (
	"strings"

	"letterlock/api"
	"letterlock/data"
	"letterlock/fresh"
	"letterlock/meta"
	"letterlock/owner"
	"letterlock/reader"
	"letterlock/rights"
	"letterlock/term"
	"letterlock/user"
)

// The chapter's words, and those of the chapters that it calls, once more and from them alone, for the
// tests to hold the package against: signatures, trees, boxes and keys are put together by hand; only
// what bytes hold owner and data tell, and rights whether some are right.

const (
	lastEpoch = 7
	mostWords = 64
	anyKind   = "atphsubg"
	keyOf     = "hpt\x01\x03key" // and the state behind it
)

// asked is what is asked of an answer.
type asked struct {
	blob, public, owner, file string
	now, bound                uint64
}

func (a asked) check() (meta.Meta, api.Errno) {
	return reader.Check(a.blob, a.public, a.owner, a.file, a.now, a.bound)
}

func (a asked) ought() (meta.Meta, api.Errno) {
	x, e := owner.Take(a.blob)
	if e != api.OK {
		return meta.Meta{}, api.ErrForm
	}
	if !isTerm(a.public, "u") {
		return meta.Meta{}, api.ErrArg
	}
	s, m, secret := x.Stamp, x.Meta, a.public[1:]
	late := a.now - s.Time
	switch {
	case s.Sig != "g"+secret+signedOf(s):
		return meta.Meta{}, api.ErrSig
	case s.Owner != a.owner:
		return meta.Meta{}, api.ErrName
	case s.Time > a.now || late > a.bound:
		return meta.Meta{}, api.ErrStale
	case m.Sig != "g"+secret+text(bodyOf(m)):
		return meta.Meta{}, api.ErrSig
	case m.Rights.Owner != a.owner || m.Rights.File != a.file:
		return meta.Meta{}, api.ErrName
	case !oughtCover(s, x.At, leafOf(a.file, m.Version), x.Proof):
		return meta.Meta{}, api.ErrStale
	}
	return m, api.OK
}

// oughtCover tells whether a right stamp covers a leaf.
func oughtCover(s fresh.Stamp, at int, leaf string, proof []string) bool {
	if at < 0 || at >= s.Many {
		return false
	}
	root, fits := rootFrom(s.Many, at, leaf, proof)
	return fits && root == s.Root
}

// rootFrom is the tree that is put together of a leaf, at a place of so many, and of a proof, if that is as long as it must be.
func rootFrom(many, at int, leaf string, proof []string) (string, bool) {
	n, above := half(many), len(proof)-1
	switch {
	case n == 0:
		return "h" + leaf, above < 0
	case above < 0:
		return "", false
	case at < n:
		first, fits := rootFrom(n, at, leaf, proof[:above])
		return "hp" + first + proof[above], fits
	}
	rest, fits := rootFrom(many-n, at-n, leaf, proof[:above])
	return "hp" + proof[above] + rest, fits
}

func oughtKeysOf(m meta.Meta, user, secret string) (reader.Keys, api.Errno) {
	if !meta.Right(m) || !isTerm(secret, anyKind) {
		return reader.Keys{}, api.ErrArg
	}
	box := ""
	for _, b := range m.Blocks {
		if b.User == user {
			box = b.Box
		}
	}
	if box == "" {
		return reader.Keys{}, api.ErrDenied
	}
	both, boxed := strings.CutPrefix(box, "bu"+secret+"p")
	if !boxed {
		return reader.Keys{}, api.ErrSig
	}
	state, signer, _ := term.Read(both)
	if signer[0] == 't' {
		signer = ""
	}
	r := m.Rights
	return reader.Keys{Path: r.Owner + "/" + r.File, Epoch: r.Epoch, State: state, Signer: signer, Verify: m.Verify}, api.OK
}

func oughtOwnKeys(o user.Owned) (reader.Keys, api.Errno) {
	r := o.Rights
	if !rights.Right(r) || len(o.Signers) != r.Epoch+1 || o.Gone || !isTerm(o.Root, anyKind) {
		return reader.Keys{}, api.ErrArg
	}
	k := reader.Keys{Path: r.Owner + "/" + r.File, Epoch: r.Epoch, State: strings.Repeat("h", lastEpoch-r.Epoch) + o.Root}
	if !isTerm(k.State, anyKind) {
		return reader.Keys{}, api.ErrBig
	}
	for _, s := range o.Signers {
		if !isTerm(s, anyKind) {
			return reader.Keys{}, api.ErrArg
		}
		if !isTerm("u"+s, "u") {
			return reader.Keys{}, api.ErrBig
		}
		k.Verify, k.Signer = append(k.Verify, "u"+s), s
	}
	return k, api.OK
}

func oughtOpen(k reader.Keys, blob string) (string, api.Errno) {
	b, e := data.Take(blob)
	if e != api.OK {
		return "", api.ErrForm
	}
	if !isTerm(k.State, anyKind) || k.Epoch < 0 || k.Epoch > lastEpoch || len(k.Verify) != k.Epoch+1 {
		return "", api.ErrArg
	}
	if b.Epoch > k.Epoch {
		return "", api.ErrSig
	}
	public := k.Verify[b.Epoch]
	if !isTerm(public, "u") || b.Sig != "g"+public[1:]+"pa"+number(uint64(b.Epoch))+b.Sealed {
		return "", api.ErrSig
	}
	state := strings.Repeat("h", k.Epoch-b.Epoch) + k.State
	for many := range mostWords + 1 {
		if contents := b.Sealed[max(0, len(b.Sealed)-many):]; b.Sealed == "s"+keyOf+state+"p"+text(k.Path)+text(contents) {
			return contents, api.OK
		}
	}
	return "", api.ErrSig
}

// signedOf is what is signed of a stamp.
func signedOf(s fresh.Stamp) string {
	return "p" + text(s.Owner) + "pa" + number(s.Time) + "pa" + number(uint64(s.Many)) + s.Root
}

// bodyOf is the bytes of a meta's body.
func bodyOf(m meta.Meta) string {
	var blocks []string
	for _, b := range m.Blocks {
		blocks = append(blocks, row(b.User, b.Box))
	}
	r := m.Rights
	return row(row(r.Owner, r.File, number(uint64(r.Epoch)), row(r.Readers...), row(r.Writers...)), number(m.Version), row(m.Verify...), row(blocks...))
}

// half is how many leaves, of 2 to 8, the first part of a tree has.
func half(many int) int { return []int{0, 0, 1, 2, 2, 4, 4, 4, 4}[many] }

// isTerm tells whether t is a right term, whole, of one of these kinds.
func isTerm(t, kinds string) bool {
	x, behind, e := term.Read(t)
	return e == api.OK && x == t && behind == "" && strings.Contains(kinds, t[:1])
}

// leafOf is a leaf, number a number's bytes, row a row's, text a text's term.
func leafOf(file string, version uint64) string { return "p" + text(file) + "a" + number(version) }

func number(n uint64) string {
	s := ""
	for ; n > 0; n /= 256 {
		s = string([]byte{byte(n % 256)}) + s
	}
	return string([]byte{byte(len(s))}) + s
}

func row(l ...string) string {
	var b strings.Builder
	b.WriteString(number(uint64(len(l))))
	for _, t := range l {
		b.WriteString(number(uint64(len(t))) + t)
	}
	return b.String()
}

func text(s string) string { return "t" + number(uint64(len(s))) + s }
