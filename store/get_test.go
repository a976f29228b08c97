package store_test

import (
	"slices"
	"strconv"
	"strings"
	"testing"

	"letterlock/api"
	"letterlock/store"
)

// L2: a blob of nothing is there; where there is none is another answer.
func TestBlobOfNothing(t *testing.T) {
	b := newBoth(t)
	b.put("a", "")
	b.hold("a", "b", "")
	if blob, e := b.s.Get("a"); blob != "" || e != api.OK {
		t.Errorf("%q, %v", blob, e)
	}
	if l := b.s.Versions("a"); len(l) != 1 || l[0] != "" {
		t.Errorf("%q", l)
	}
	if !slices.Equal(b.s.List(""), []string{"a"}) || b.delete("a") != api.OK {
		t.Error("it is not there")
	}
	b.put("a", "")
	b.put("a", "")
	b.hold("a", "b", "")
	if l := b.s.Versions("a"); len(l) != 3 {
		t.Errorf("%q", l)
	}
}

// L2: lists of what begins so, written out: what is only ever put, or deleted, is told where it ought to be.
func TestSomeLists(t *testing.T) {
	s := store.New()
	for _, key := range []string{"f/ben/notes", "f/anna/notes", "m/anna", "f/anna/bills", "f/annabel/a", "F/anna/x", "\u00e4", "f", "f/anna/gone", "z", "f/anna/"} {
		s.Put(key, "x")
	}
	s.Put("f/anna/notes", "y")
	s.Delete("f/anna/gone")
	for prefix, want := range map[string]string{
		"":              "F/anna/x f f/anna/ f/anna/bills f/anna/notes f/annabel/a f/ben/notes m/anna z \u00e4",
		"f":             "f f/anna/ f/anna/bills f/anna/notes f/annabel/a f/ben/notes",
		"f/":            "f/anna/ f/anna/bills f/anna/notes f/annabel/a f/ben/notes",
		"f/anna":        "f/anna/ f/anna/bills f/anna/notes f/annabel/a",
		"f/anna/":       "f/anna/ f/anna/bills f/anna/notes",
		"f/anna/notes":  "f/anna/notes",
		"f/anna/notes ": "",
		"f/anna/gone":   "",
		"F":             "F/anna/x",
		"\u00e4":        "\u00e4",
		"\xc3":          "\u00e4",
		"\xa4":          "",
		"nna":           "",
		"zz":            "",
		"\x00":          "",
	} {
		if l := s.List(prefix); strings.Join(l, " ") != want {
			t.Errorf("List(%q): %q", prefix, l)
		}
	}
	want := []string{"F/anna/x", "f", "f/anna/", "f/anna/bills", "f/anna/gone", "f/anna/notes", "f/annabel/a", "f/ben/notes", "m/anna", "z", "\u00e4"}
	if l := s.Ever(); !slices.Equal(l, want) {
		t.Errorf("%q", l)
	}
}

// L2: all keys of a few bytes, put in another order than theirs, by all prefixes of these, and longer ones.
func TestListAsItOughtToBe(t *testing.T) {
	b := newBoth(t)
	all := textsOf("/a\x00\xff", 3)[1:]
	d := &dice{3}
	for i := range all {
		at := i + d.roll(len(all)-i)
		all[i], all[at] = all[at], all[i]
		b.put(all[i], strconv.Itoa(i))
	}
	prefixes := textsOf("/a\x00\xff", 4)
	b.hold(prefixes...)
	for i, key := range all {
		if i%3 == 0 {
			b.delete(key)
		}
	}
	b.hold(prefixes...)
	if l := b.s.List(""); len(l) != len(all)-(len(all)+2)/3 || len(b.s.Ever()) != len(all) {
		t.Errorf("%d of %d", len(l), len(all))
	}
}

// L2: a prefix of each length, up to more than a key can have.
func TestPrefixOfEachLength(t *testing.T) {
	b := newBoth(t)
	for long := 1; long <= 200; long++ {
		b.put(strings.Repeat("k", long), "x")
	}
	for long := range 203 {
		l := b.s.List(strings.Repeat("k", long))
		if want := min(200, 201-long); len(l) != max(0, want) {
			t.Errorf("%d bytes: %d keys", long, len(l))
		}
		for i, key := range l {
			if len(key) != max(1, long)+i {
				t.Errorf("%d bytes: the one at %d has %d", long, i, len(key))
			}
		}
	}
	if l := b.s.List(strings.Repeat("k", 1<<24)); len(l) > 0 {
		t.Errorf("%d keys begin with a great text", len(l))
	}
	b.hold("k", "kk", strings.Repeat("k", 200), strings.Repeat("k", 201))
}

// L2: versions are told in the order of their puts, each as often as it was put, of that key alone.
func TestVersionsOfEachKey(t *testing.T) {
	b := newBoth(t)
	d := &dice{11}
	for i := range 1200 {
		key := keys()[d.roll(len(keys()))]
		b.put(key, []string{"", "x", "x", key, strconv.Itoa(i)}[d.roll(5)])
		if d.roll(3) == 0 {
			b.delete(keys()[d.roll(len(keys()))])
		}
	}
	b.hold(keys()...)
	many := 0
	for _, key := range b.s.Ever() {
		many += len(b.s.Versions(key))
	}
	if many != 1200 || b.s.Puts() != 1200 {
		t.Errorf("%d versions, %d puts", many, b.s.Puts())
	}
	if len(b.s.Versions("none")) > 0 || len(b.s.Versions("")) > 0 {
		t.Error("versions of what was never put")
	}
}

// L2: Ever tells each key once, in order, however often it was put, and whether it is there or not.
func TestEverTellsEachOnce(t *testing.T) {
	b := newBoth(t)
	for range 4 {
		for _, key := range keys() {
			b.put(key, "x")
		}
		b.hold("")
		for i, key := range keys() {
			if i%2 == 0 {
				b.delete(key)
			}
		}
		b.hold("")
		l := b.s.Ever()
		for i := range l {
			if i > 0 && !ahead(l[i-1], l[i]) {
				t.Errorf("%q ahead of %q", l[i-1], l[i])
			}
		}
		if len(l) != len(keys()) {
			t.Errorf("%d keys", len(l))
		}
	}
	b.put("", "x")
	b.put(strings.Repeat("k", 201), "x")
	b.put("great", strings.Repeat("x", 40001))
	if l := b.s.Ever(); len(l) != len(keys()) {
		t.Errorf("what was refused is told: %q", l)
	}
}
