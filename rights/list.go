package rights

import (
	"slices"

	"letterlock/name"
)

// rising tells whether all of a list are names, each ahead of the next one.
func rising(l []string) bool {
	for i, n := range l {
		if !name.Right(n) || i > 0 && !name.Less(l[i-1], n) {
			return false
		}
	}
	return true
}

// among tells whether a name is one of a list that rises.
func among(l []string, user string) bool {
	_, there := place(l, user, name.Less)
	return there
}

// with is a list of its own, of these names and one more. (None shares memory with what was handed in.)
func with(l []string, user string) []string {
	at, _ := place(l, user, name.Less)
	return slices.Concat(l[:at], []string{user}, l[at:])
}

// without is a list of its own, of these names but that one.
func without(l []string, user string) []string {
	at, there := place(l, user, name.Less)
	if !there {
		return slices.Concat(l)
	}
	return slices.Concat(l[:at], l[at+1:])
}

// place tells at which place x stands in a list that rises by less, and whether it does; if not, at which it would.
func place[T any](l []T, x T, less func(a, b T) bool) (int, bool) {
	for at, y := range l {
		if !less(y, x) {
			return at, !less(x, y)
		}
	}
	return len(l), false
}
