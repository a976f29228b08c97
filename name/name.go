// Package name: names: layer 1: see shared/doc/01-name.md.
package name

import (
	"strings"
	"unicode/utf8"

	"letterlock/api"
)

const (
	slash = "/"       // stands in no name, so a path parts in one way
	apart = 'a' - 'A' // from a great letter to its small one, in each script
)

// Right tells whether a text is a name. It looks at no more of a long text than it must.
func Right(s string) bool {
	many := 0
	for _, r := range s { // a byte that is no part of a rune is met as 0xFFFD, which no name has
		many++
		if many > api.MaxName || !small(r) {
			return false
		}
	}
	return many > 0
}

// Runes are those of a valid text.
func Runes(s string) ([]int32, api.Errno) {
	var l []int32
	for at, r := range s {
		if broken(s[at:], r) {
			return nil, api.ErrForm
		}
		l = append(l, r)
	}
	return l, api.OK
}

// Make makes a text of runes.
func Make(l []int32) (string, api.Errno) {
	for _, r := range l {
		if !utf8.ValidRune(r) {
			return "", api.ErrArg
		}
	}
	return string(l), api.OK
}

// Fold makes small letters of great ones, and a - of each byte that is no part of a rune.
func Fold(s string) string {
	var b strings.Builder
	b.Grow(len(s))
	for at, r := range s {
		switch {
		case broken(s[at:], r):
			b.WriteByte('-')
		case great(r):
			b.WriteRune(r + apart)
		default:
			b.WriteRune(r)
		}
	}
	return b.String()
}

// Less tells whether a stands ahead of b, by their bytes.
func Less(a, b string) bool { return a < b }

// Path is two names, with a slash between.
func Path(owner, file string) (string, api.Errno) {
	if !Right(owner) || !Right(file) {
		return "", api.ErrName
	}
	return owner + slash + file, api.OK
}

// Split parts a path into its two names.
func Split(path string) (string, string, api.Errno) {
	owner, file, found := strings.Cut(path, slash)
	if !found || !Right(owner) || !Right(file) {
		return "", "", api.ErrName
	}
	return owner, file, api.OK
}

// broken tells whether r, which a range met first in s, stands for a byte that is no part of a
// rune: the range tells 0xFFFD then, but also where a text truly has that rune.
func broken(s string, r rune) bool {
	return r == utf8.RuneError && !strings.HasPrefix(s, string(utf8.RuneError))
}

// small tells whether a name can have that rune.
func small(r rune) bool {
	switch {
	case r >= 'a' && r <= 'z',
		r >= '0' && r <= '9',
		r == '-',
		r >= 0xDF && r <= 0xF6,
		r >= 0xF8 && r <= 0xFF,
		r >= 0x3B1 && r <= 0x3C9,
		r >= 0x430 && r <= 0x44F:
		return true
	}
	return false
}

// great tells whether a rune is a great letter that has a small one.
func great(r rune) bool {
	switch {
	case r >= 'A' && r <= 'Z',
		r >= 0xC0 && r <= 0xD6,
		r >= 0xD8 && r <= 0xDE,
		r >= 0x391 && r <= 0x3A1,
		r >= 0x3A3 && r <= 0x3A9,
		r >= 0x410 && r <= 0x42F:
		return true
	}
	return false
}
