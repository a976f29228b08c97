package name_test

import (
	"strings"
	"testing"

	"letterlock/api"
	"letterlock/name"
)

var long = strings.Repeat("\u00E4", 32)

// A4: the path of two names, and its two names again.
func TestPathOfNames(t *testing.T) {
	names := []string{"a", "-", "0", "anna", "notes", "\u00DF\u00FF", "\u03B1\u044F", long}
	for _, owner := range names {
		for _, file := range names {
			path, e := name.Path(owner, file)
			if path != owner+"/"+file || e != api.OK {
				t.Errorf("Path(%q, %q) = %q, %v", owner, file, path, e)
			}
			if a, b, e := name.Split(path); a != owner || b != file || e != api.OK {
				t.Errorf("Split(%q) = %q, %q, %v", path, a, b, e)
			}
		}
	}
}

// A4: Path of what is no name, as the one, as the other, as both.
func TestPathOfOthers(t *testing.T) {
	for _, bad := range []string{"", "A", "a b", "a/b", "/", "_", "\u00F7", "\xff", "a\x80", "a\n", long + "a", strings.Repeat("a", 33)} {
		for _, two := range [][2]string{{bad, "notes"}, {"anna", bad}, {bad, bad}} {
			if s, e := name.Path(two[0], two[1]); s != "" || e != api.ErrName {
				t.Errorf("Path(%q, %q) = %q, %v", two[0], two[1], s, e)
			}
			if a, b, e := name.Split(two[0] + "/" + two[1]); a != "" || b != "" || e != api.ErrName {
				t.Errorf("Split(%q/%q) = %q, %q, %v", two[0], two[1], a, b, e)
			}
		}
	}
}

// A4: Split of what is no path of two names, for want of a slash, or for too many.
func TestSplitOfOthers(t *testing.T) {
	for _, path := range []string{"", "/", "//", "anna", "anna/", "/notes", "anna//notes", "anna/notes/", "/anna/notes", "a/b/c", "anna\\notes", "anna notes", "anna:notes", "Anna/notes", "anna/Notes", " anna/notes", "anna/notes\n", "anna\x00/notes", "anna/\xff", "\xff/notes", "anna\u2215notes", long + "a/notes", "anna/" + long + "a", strings.Repeat("a/", 1000)} {
		if a, b, e := name.Split(path); a != "" || b != "" || e != api.ErrName {
			t.Errorf("Split(%q) = %q, %q, %v", path, a, b, e)
		}
	}
}

// A4: Split takes just what Path makes.
func TestSplitOfEachText(t *testing.T) {
	eachText(func(s string) {
		at := strings.IndexByte(s, '/')
		want := at >= 0 && oughtRight(s[:at]) && oughtRight(s[at+1:])
		a, b, e := name.Split(s)
		if want && (a != s[:at] || b != s[at+1:] || e != api.OK) || !want && (a != "" || b != "" || e != api.ErrName) {
			t.Errorf("Split(%q) = %q, %q, %v", s, a, b, e)
		}
	})
}
