package fresh_test

import (
	"fmt"
	"math/big"
	"strings"

	"letterlock/api"
	"letterlock/fresh"
	"letterlock/name"
	"letterlock/term"
	"letterlock/tree"
)

// The chapter's words, once more and from them alone, for the tests to hold the package against:
// terms and bytes are put together by hand, and looked at when all of them are there.

const (
	mostLeaves = 8
	anyKind    = "atphsubg"
)

// given is what a stamp is built of.
type given struct {
	secret, owner string
	time          uint64
	leaves        []string
}

func (g given) build() (fresh.Stamp, api.Errno) {
	return fresh.Build(g.secret, g.owner, g.time, g.leaves)
}

func (g given) ought() (fresh.Stamp, api.Errno) {
	if !isTerm(g.secret, anyKind) || !name.Right(g.owner) {
		return fresh.Stamp{}, api.ErrArg
	}
	root := "t\x00"
	if len(g.leaves) > 0 {
		r, e := tree.Root(g.leaves)
		if e != api.OK {
			return fresh.Stamp{}, e
		}
		root = r
	}
	s := signedStamp(g.secret, fresh.Stamp{Owner: g.owner, Time: g.time, Many: len(g.leaves), Root: root})
	if !isTerm(s.Sig, "g") { // all other terms that are made are parts of it
		return fresh.Stamp{}, api.ErrBig
	}
	return s, api.OK
}

// signedStamp is a stamp of anything, signed as it must be.
func signedStamp(secret string, s fresh.Stamp) fresh.Stamp {
	s.Sig = "g" + secret + signedOf(s)
	return s
}

// signedOf is what is signed of a stamp.
func signedOf(s fresh.Stamp) string {
	return "p" + text(s.Owner) + "pa" + number(s.Time) + "pa" + number(uint64(s.Many)) + s.Root
}

func oughtRight(s fresh.Stamp) bool {
	return name.Right(s.Owner) && 0 <= s.Many && s.Many <= mostLeaves && isTerm(s.Root, anyKind) && isTerm(s.Sig, "g")
}

// oughtPut is a stamp's bytes, whatever it is.
func oughtPut(s fresh.Stamp) string {
	return row(s.Owner, number(s.Time), number(uint64(s.Many)), s.Root, s.Sig)
}

// asked is what a stamp is checked with.
type asked struct {
	s             fresh.Stamp
	public, owner string
	now, bound    uint64
}

func (a asked) check() api.Errno { return fresh.Check(a.s, a.public, a.owner, a.now, a.bound) }

func (a asked) ought() api.Errno {
	switch {
	case !oughtRight(a.s) || !isTerm(a.public, "u"):
		return api.ErrArg
	case a.s.Sig != "g"+a.public[1:]+signedOf(a.s):
		return api.ErrSig
	case a.s.Owner != a.owner:
		return api.ErrName
	case !lately(a.s.Time, a.now, a.bound):
		return api.ErrStale
	}
	return api.OK
}

// lately tells whether now is time, or later by at most bound, in numbers that do not go round.
func lately(time, now, bound uint64) bool {
	from, at := new(big.Int).SetUint64(time), new(big.Int).SetUint64(now)
	to := new(big.Int).Add(from, new(big.Int).SetUint64(bound))
	return from.Cmp(at) <= 0 && at.Cmp(to) <= 0
}

func oughtCover(s fresh.Stamp, at int, leaf string, proof []string) bool {
	return oughtRight(s) && tree.Verify(s.Root, s.Many, at, leaf, proof)
}

// isTerm tells whether t is a right term, whole, of one of these kinds.
func isTerm(t, kinds string) bool {
	x, behind, e := term.Read(t)
	return e == api.OK && x == t && behind == "" && strings.Contains(kinds, t[:1])
}

// number is a number's bytes, row a row's, text a text's term.
func number(n uint64) string {
	s := ""
	for ; n > 0; n /= 256 {
		s = string([]byte{byte(n % 256)}) + s
	}
	return string([]byte{byte(len(s))}) + s
}

func row(l ...string) string {
	var b strings.Builder
	b.WriteString(number(uint64(len(l))))
	for _, t := range l {
		b.WriteString(number(uint64(len(t))) + t)
	}
	return b.String()
}

func text(s string) string { return "t" + number(uint64(len(s))) + s }

// show is what is handed in, or answered, as a test tells of it, without the far end.
func show(x any) string {
	s := fmt.Sprintf("%+.200q", x)
	return s[:min(400, len(s))]
}
