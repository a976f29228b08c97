package meta_test

import (
	"fmt"
	"slices"
	"strings"

	"letterlock/api"
	"letterlock/meta"
	"letterlock/name"
	"letterlock/rights"
	"letterlock/term"
)

// The chapter's words, once more and from them alone, for the tests to hold the package against:
// terms and bytes are put together by hand, and what is made is looked at when all of it is there.

const (
	lastEpoch = 7
	anyKind   = "atphsubg"
	none      = "t\x00" // the empty text
)

// given is what a meta is built of.
type given struct {
	secret  string
	r       api.Rights
	version uint64
	root    string
	signers []string
	known   []meta.Known
}

func (g given) build() (meta.Meta, api.Errno) {
	return meta.Build(g.secret, g.r, g.version, g.root, g.signers, g.known)
}

// publicOf is what a user is known by, or why it is not.
func (g given) publicOf(user string) (string, api.Errno) {
	for _, k := range g.known {
		if k.Name == user && isTerm(k.Public, "u") {
			return k.Public, api.OK
		}
		if k.Name == user {
			return "", api.ErrArg
		}
	}
	return "", api.ErrNone
}

// state is the state of the rights' epoch.
func (g given) state() string { return strings.Repeat("h", lastEpoch-g.r.Epoch) + g.root }

func (g given) ought() (meta.Meta, api.Errno) {
	if !rights.Right(g.r) || len(g.signers) != g.r.Epoch+1 {
		return meta.Meta{}, api.ErrArg
	}
	for _, t := range append([]string{g.secret, g.root}, g.signers...) {
		if !isTerm(t, anyKind) {
			return meta.Meta{}, api.ErrArg
		}
	}
	m := meta.Meta{Rights: g.r, Version: g.version}
	var made []string
	for _, user := range oughtOthers(g.r) {
		public, e := g.publicOf(user)
		if e != api.OK {
			return meta.Meta{}, e
		}
		signer := none
		if slices.Contains(g.r.Writers, user) {
			signer = g.signers[g.r.Epoch]
		}
		m.Blocks = append(m.Blocks, meta.Block{User: user, Box: "b" + public + "p" + g.state() + signer})
		made = append(made, m.Blocks[len(m.Blocks)-1].Box)
	}
	for _, s := range g.signers {
		m.Verify = append(m.Verify, "u"+s)
	}
	m.Sig = "g" + g.secret + text(oughtBody(m))
	for _, t := range append(append(made, m.Verify...), text(oughtBody(m)), m.Sig) {
		if !isTerm(t, anyKind) {
			return meta.Meta{}, api.ErrBig
		}
	}
	return m, api.OK
}

// isTerm tells whether t is a right term, whole, of one of these kinds.
func isTerm(t, kinds string) bool {
	x, behind, e := term.Read(t)
	return e == api.OK && x == t && behind == "" && strings.Contains(kinds, t[:1])
}

// oughtOthers are the others, each put where it must stand.
func oughtOthers(r api.Rights) []string {
	var l []string
	for _, n := range slices.Concat(r.Writers, r.Readers) {
		at := 0
		for at < len(l) && name.Less(l[at], n) {
			at++
		}
		l = slices.Insert(l, at, n)
	}
	return l
}

func oughtRight(m meta.Meta) bool {
	if !rights.Right(m.Rights) || len(m.Verify) != m.Rights.Epoch+1 || !isTerm(m.Sig, "g") {
		return false
	}
	for _, t := range m.Verify {
		if !isTerm(t, "u") {
			return false
		}
	}
	var users []string
	for _, b := range m.Blocks[:min(9, len(m.Blocks))] {
		if !isTerm(b.Box, "b") {
			return false
		}
		users = append(users, b.User)
	}
	return slices.Equal(users, oughtOthers(m.Rights))
}

// oughtBody is the body's bytes, whatever the meta is.
func oughtBody(m meta.Meta) string {
	var blocks []string
	for _, b := range m.Blocks {
		blocks = append(blocks, row(b.User, b.Box))
	}
	return row(ofRights(m.Rights), number(m.Version), row(m.Verify...), row(blocks...))
}

// oughtPut is a meta's bytes, whatever it is.
func oughtPut(m meta.Meta) string { return row(oughtBody(m), m.Sig) }

// ofRights are the bytes of rights, whatever these are.
func ofRights(r api.Rights) string {
	return row(r.Owner, r.File, number(uint64(r.Epoch)), row(r.Readers...), row(r.Writers...))
}

func oughtCheck(m meta.Meta, public, owner, file string) api.Errno {
	switch {
	case !oughtRight(m) || !isTerm(public, "u"):
		return api.ErrArg
	case !isTerm(text(oughtBody(m)), "t") || m.Sig != "g"+public[1:]+text(oughtBody(m)):
		return api.ErrSig
	case m.Rights.Owner != owner || m.Rights.File != file:
		return api.ErrName
	}
	return api.OK
}

func oughtOpen(m meta.Meta, user, secret string) (string, string, api.Errno) {
	if !oughtRight(m) || !isTerm(secret, anyKind) {
		return "", "", api.ErrArg
	}
	for _, b := range m.Blocks {
		if b.User != user {
			continue
		}
		keys, its := strings.CutPrefix(b.Box, "bu"+secret+"p")
		if !its {
			return "", "", api.ErrSig
		}
		state, signer, _ := term.Read(keys)
		if signer[0] == 't' {
			signer = ""
		}
		return state, signer, api.OK
	}
	return "", "", api.ErrDenied
}

// number is a number's bytes, row a row's, text a text's term.
func number(n uint64) string {
	s := ""
	for ; n > 0; n /= 256 {
		s = string([]byte{byte(n % 256)}) + s
	}
	return string([]byte{byte(len(s))}) + s
}

func row(l ...string) string {
	var b strings.Builder
	b.WriteString(number(uint64(len(l))))
	for _, t := range l {
		b.WriteString(number(uint64(len(t))) + t)
	}
	return b.String()
}

func text(s string) string { return "t" + number(uint64(len(s))) + s }

// same tells whether both are the same meta, lists of nothing nil or empty.
func same(a, b meta.Meta) bool {
	return a.Rights.Owner == b.Rights.Owner && a.Rights.File == b.Rights.File && a.Rights.Epoch == b.Rights.Epoch &&
		slices.Equal(a.Rights.Readers, b.Rights.Readers) && slices.Equal(a.Rights.Writers, b.Rights.Writers) &&
		a.Version == b.Version && slices.Equal(a.Verify, b.Verify) && slices.Equal(a.Blocks, b.Blocks) && a.Sig == b.Sig
}

// apart is the same meta, in memory of its own.
func apart(m meta.Meta) meta.Meta {
	m.Rights.Readers, m.Rights.Writers = slices.Clone(m.Rights.Readers), slices.Clone(m.Rights.Writers)
	m.Verify, m.Blocks = slices.Clone(m.Verify), slices.Clone(m.Blocks)
	return m
}

// show is a meta, or what one is built of, as a test tells of it, without the far end.
func show(x any) string {
	s := fmt.Sprintf("%.200q", x)
	return s[:min(400, len(s))]
}
