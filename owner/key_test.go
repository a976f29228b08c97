package owner_test

import (
	"slices"
	"strings"
	"testing"

	"letterlock/owner"
)

// O1: keys, written out: of names, of nothing, and of texts that are no name.
func TestKeys(t *testing.T) {
	for _, c := range []struct{ owner, file, meta, data string }{
		{"anna", "notes", "f/anna/notes", "d/anna/notes"},
		{"ben", "notes", "f/ben/notes", "d/ben/notes"},
		{"anna", "anna", "f/anna/anna", "d/anna/anna"},
		{"f", "d", "f/f/d", "d/f/d"},
		{"", "", "f//", "d//"},
		{"", "notes", "f//notes", "d//notes"},
		{"anna", "", "f/anna/", "d/anna/"},
		{"/", "/", "f////", "d////"},
		{"anna/notes", "x", "f/anna/notes/x", "d/anna/notes/x"},
		{"anna", "notes/x", "f/anna/notes/x", "d/anna/notes/x"},
		{"Anna", " n ", "f/Anna/ n ", "d/Anna/ n "},
		{"\xff\x00", "\xc3", "f/\xff\x00/\xc3", "d/\xff\x00/\xc3"},
		{"\u044f", "\u00e4", "f/\u044f/\u00e4", "d/\u044f/\u00e4"},
	} {
		if m, d := owner.MetaKey(c.owner, c.file), owner.DataKey(c.owner, c.file); m != c.meta || d != c.data {
			t.Errorf("%q, %q: %q, %q", c.owner, c.file, m, d)
		}
	}
}

// O1: no two keys of names are the same: of another owner, another file, or another kind.
func TestKeysOfNamesAreApart(t *testing.T) {
	var l []string
	for _, who := range names() {
		for _, file := range names() {
			l = append(l, owner.MetaKey(who, file), owner.DataKey(who, file))
		}
	}
	many := len(l)
	slices.Sort(l)
	if len(slices.Compact(l)) != many {
		t.Error("two files have one key")
	}
}

// O1: a key is as long as it must be.
func TestGreatKeys(t *testing.T) {
	long := strings.Repeat("k", 1<<24)
	if owner.MetaKey(long, long) != "f/"+long+"/"+long || owner.DataKey(long, long) != "d/"+long+"/"+long {
		t.Error("a great key is another one")
	}
}
