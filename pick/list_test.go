package pick_test

import (
	"slices"
	"strings"
	"testing"

	"letterlock/pick"
)

// M2: some lists, written out: of what is gone nothing is listed, and of all other kinds what is there.
func TestSomeLists(t *testing.T) {
	b := newBoth(t)
	for _, key := range []string{"m/ben", "f/anna/notes", "f/anna/bills", "f/annabel/x", "f/anna/gone", "b", "\u00e4"} {
		b.put(key, "x")
	}
	b.put("f/anna/notes", "y")
	b.delete("f/anna/gone")
	for prefix, want := range map[string]string{
		"":             "b f/anna/bills f/anna/notes f/annabel/x m/ben \u00e4",
		"f/anna/":      "f/anna/bills f/anna/notes",
		"f/anna":       "f/anna/bills f/anna/notes f/annabel/x",
		"f/anna/gone":  "",
		"b":            "b",
		"bb":           "",
		"\xc3":         "\u00e4",
		"f/anna/notes": "f/anna/notes",
	} {
		for _, k := range kinds() {
			for _, c := range []pick.Choice{{Kind: k}, {k, 1, "b", "x"}, {k, -1, "", strings.Repeat("x", 40001)}} {
				l := pick.List(b.s, prefix, c)
				if k == 'd' && len(l) > 0 || k != 'd' && strings.Join(l, " ") != want {
					t.Errorf("List(%q, %s): %q", prefix, tell(c), l)
				}
			}
		}
	}
}

// M2: as the store lists, by all prefixes of a few bytes, of each kind.
func TestListAsTheStore(t *testing.T) {
	b := newBoth(t)
	all := textsOf("/a\xff", 3)[1:]
	d := &dice{5}
	for range 60 {
		b.put(all[d.roll(len(all))], "x")
		b.delete(all[d.roll(len(all))])
	}
	for _, prefix := range append(textsOf("/a\xff", 4), strange()...) {
		there := b.s.List(prefix)
		for _, c := range choices("a") {
			l := pick.List(b.s, prefix, c)
			if c.Kind == 'd' && len(l) > 0 || c.Kind != 'd' && !slices.Equal(l, there) {
				t.Fatalf("List(%s, %s): %q, not %q", show(prefix), tell(c), l, there)
			}
		}
	}
}

// M2: what lies, and what does not, written out.
func TestSomeLies(t *testing.T) {
	b := newBoth(t)
	for _, l := range [][2]string{{"a", "x"}, {"a", "y"}, {"a", "x"}, {"b", "x"}, {"c", "y"}, {"empty", "z"}, {"empty", ""}, {"gone", ""}} {
		b.put(l[0], l[1])
	}
	b.delete("gone")
	for _, c := range []struct {
		key  string
		c    pick.Choice
		lies bool
	}{
		{"a", pick.Choice{Kind: pick.Stale}, false},
		{"a", pick.Choice{Kind: pick.Stale, Back: 1}, true},
		{"a", pick.Choice{Kind: pick.Stale, Back: 2}, false}, // it is what is there
		{"a", pick.Choice{Kind: pick.Stale, Back: 3}, true},
		{"a", pick.Choice{Kind: pick.Stale, Back: -1}, true},
		{"a", pick.Choice{Kind: pick.Gone}, true},
		{"a", pick.Choice{Kind: pick.Other, Key: "a"}, false},
		{"a", pick.Choice{Kind: pick.Other, Key: "b"}, false},
		{"a", pick.Choice{Kind: pick.Other, Key: "c"}, true},
		{"a", pick.Choice{Kind: pick.Other, Key: "none"}, true},
		{"a", pick.Choice{Kind: pick.Made, Bytes: "x"}, false},
		{"a", pick.Choice{Kind: pick.Made, Bytes: "y"}, true},
		{"a", pick.Choice{Kind: pick.Made}, true},
		{"a", pick.Choice{Kind: pick.Made, Bytes: strings.Repeat("x", 40001)}, true},
		{"empty", pick.Choice{Kind: pick.Stale}, false},
		{"empty", pick.Choice{Kind: pick.Stale, Back: 2}, true}, // a blob of nothing is not none
		{"empty", pick.Choice{Kind: pick.Gone}, true},
		{"empty", pick.Choice{Kind: pick.Other, Key: "none"}, true},
		{"empty", pick.Choice{Kind: pick.Made}, false},
		{"empty", pick.Choice{Kind: pick.Made, Bytes: strings.Repeat("x", 40001)}, true},
		{"gone", pick.Choice{Kind: pick.Stale}, true},
		{"gone", pick.Choice{Kind: pick.Stale, Back: 1}, false},
		{"gone", pick.Choice{Kind: pick.Gone}, false},
		{"gone", pick.Choice{Kind: pick.Other, Key: "none"}, false},
		{"gone", pick.Choice{Kind: pick.Other, Key: "empty"}, true},
		{"gone", pick.Choice{Kind: pick.Made}, true},
		{"gone", pick.Choice{Kind: pick.Made, Bytes: strings.Repeat("x", 40001)}, true}, // none is not too great
		{"none", pick.Choice{Kind: pick.Stale}, false},
		{"none", pick.Choice{Kind: pick.Gone}, false},
		{"none", pick.Choice{Kind: pick.Other}, false},
		{"none", pick.Choice{Kind: pick.Made}, true},
		{"", pick.Choice{Kind: pick.Stale}, false},
		{"", pick.Choice{Kind: pick.Gone}, false},
		{"", pick.Choice{Kind: pick.Other, Key: "a"}, true},
	} {
		if pick.Lies(b.s, c.key, c.c) != c.lies {
			t.Errorf("Lies(%q, %s) is not %v", c.key, tell(c.c), c.lies)
		}
	}
}
