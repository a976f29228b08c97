package tree

import (
	"iter"
	"math/bits"

	"letterlock/api"
	"letterlock/term"
)

// piece is the leaves of a tree by their places: from one on, up to another, which is not of it.
type piece struct{ from, to int }

// way goes from the leaf at a place up to the root of a piece, and hands out the pieces beside it,
// the lowest one first. Who proves and who verifies go the same way, so that they cannot come apart.
func way(at, from, to int) iter.Seq[piece] {
	return func(yield func(piece) bool) {
		if to-from == 1 {
			return
		}
		middle := from + first(to-from)
		within, beside := piece{from, middle}, piece{middle, to}
		if at >= middle {
			within, beside = beside, within
		}
		for lower := range way(at, within.from, within.to) {
			if !yield(lower) {
				return
			}
		}
		yield(beside)
	}
}

// first is how many leaves, of two or more, the first part of their tree has.
func first(many int) int { return 1 << (bits.Len(uint(many-1)) - 1) }

// grow is the tree of leaves that are right: of these it can only be too great.
func grow(leaves []string) (string, api.Errno) {
	if len(leaves) == 1 {
		return term.OfHash(leaves[0])
	}
	middle := first(len(leaves))
	left, e := grow(leaves[:middle])
	if e != api.OK {
		return "", e
	}
	right, e := grow(leaves[middle:])
	if e != api.OK {
		return "", e
	}
	return join(left, right)
}

// join is the tree of two.
func join(left, right string) (string, api.Errno) {
	both, e := term.OfPair(left, right)
	if e != api.OK {
		return "", e
	}
	return term.OfHash(both)
}
