package user

import (
	"letterlock/draw"
	"letterlock/name"
)

// isName is for New, in which name is a user's, and hides the package.
func isName(s string) bool { return name.Right(s) }

// secretFor draws a secret for a file that it owns, or comes to own.
func (u *User) secretFor(use, file string) string {
	path, _ := name.Path(u.name, file)             // both are names
	s, _ := draw.Secret(use, path, u.draws.Next()) // of a path no secret is too great
	return s
}

// drawn is draws of a seed, of which that many are drawn.
func drawn(seed uint64, many int) *draw.Draws {
	d := draw.New(seed)
	for range many {
		d.Next()
	}
	return d
}

// apart is what is held of a file, with lists of its own.
func apart(o Owned) Owned {
	o.Rights.Readers, o.Rights.Writers = copied(o.Rights.Readers), copied(o.Rights.Writers)
	o.Signers = copied(o.Signers)
	return o
}

// copied is a list of its own, of the same texts.
func copied(l []string) []string {
	c := make([]string, len(l))
	copy(c, l)
	return c
}

// order holds two names against each other, as slices.SortFunc asks for it.
func order(a, b string) int {
	switch {
	case name.Less(a, b):
		return -1
	case name.Less(b, a):
		return 1
	}
	return 0
}
