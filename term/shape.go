package term

import (
	"letterlock/api"
	"letterlock/wire"
)

// shape is a right term, taken apart by one step; which kind it is of, its type tells.
type shape interface {
	parts() []string
}

type atom struct{ number uint64 }

type text struct{ words string }

type pair struct{ first, second string }

type hash struct{ of string }

type sealed struct{ key, inside string }

type publicOne struct{ secret string }

type boxed struct{ public, inside string }

type signed struct{ secret, inside string }

func (x atom) parts() []string { return nil }

func (x text) parts() []string { return nil }

func (x pair) parts() []string { return []string{x.first, x.second} }

func (x hash) parts() []string { return []string{x.of} }

func (x sealed) parts() []string { return []string{x.key, x.inside} }

func (x publicOne) parts() []string { return []string{x.secret} }

func (x boxed) parts() []string { return []string{x.public, x.inside} }

func (x signed) parts() []string { return []string{x.secret, x.inside} }

// whole is the shape of a right term; nil, if t is none, or has bytes behind it.
func whole(t string) shape {
	if len(t) > api.MaxBytes {
		return nil
	}
	x, rest := take(t, api.MaxDepth)
	if rest != "" {
		return nil
	}
	return x
}

// take takes a term of at most that depth off, and answers what is behind it; the shape is nil,
// if s begins with none. It goes no deeper than that, however deep s would lead.
func take(s string, deepest int) (shape, string) {
	if s == "" || deepest == 0 {
		return nil, ""
	}
	kind, rest := s[0], s[1:]
	switch kind {
	case Atom:
		return takeAtom(rest)
	case Text:
		return takeText(rest)
	case Hash, Public:
		return takeOne(kind, rest, deepest-1)
	case Pair, Sealed, Boxed, Signed:
		return takeTwo(kind, rest, deepest-1)
	}
	return nil, ""
}

func takeAtom(s string) (shape, string) {
	n, rest, e := wire.Take(s)
	if e != api.OK {
		return nil, ""
	}
	return atom{n}, rest
}

func takeText(s string) (shape, string) {
	words, rest, e := wire.TakeText(s, api.MaxBytes)
	if e != api.OK {
		return nil, ""
	}
	return text{words}, rest
}

// takeOne takes the part of a term off that has one.
func takeOne(kind byte, s string, deepest int) (shape, string) {
	x, rest := take(s, deepest)
	if x == nil {
		return nil, ""
	}
	part := s[:len(s)-len(rest)]
	if kind == Hash {
		return hash{part}, rest
	}
	return publicOne{part}, rest
}

// takeTwo takes the parts of a term off that has two.
func takeTwo(kind byte, s string, deepest int) (shape, string) {
	x, behind := take(s, deepest)
	if x == nil {
		return nil, ""
	}
	y, rest := take(behind, deepest)
	if y == nil {
		return nil, ""
	}
	first, second := s[:len(s)-len(behind)], behind[:len(behind)-len(rest)]
	switch kind {
	case Pair:
		return pair{first, second}, rest
	case Sealed:
		return sealed{first, second}, rest
	case Signed:
		return signed{first, second}, rest
	}
	if _, ok := x.(publicOne); !ok { // what is left is boxed, and that is for a public term
		return nil, ""
	}
	return boxed{first, second}, rest
}
