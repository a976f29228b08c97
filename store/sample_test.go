package store_test

import (
	"slices"
	"strconv"
	"testing"

	"letterlock/api"
	"letterlock/store"
)

// both are a store, and what it ought to be: what is done with one is done with the other, and told alike.
type both struct {
	t *testing.T
	s *store.Store
	o ought
}

func newBoth(t *testing.T) *both { return &both{t: t, s: store.New()} }

func (b *both) put(key, blob string) api.Errno {
	b.t.Helper()
	want := b.o.put(key, blob)
	if e := b.s.Put(key, blob); e != want {
		b.t.Fatalf("Put(%s, %s): %v, not %v", show(key), show(blob), e, want)
	}
	return want
}

func (b *both) delete(key string) api.Errno {
	b.t.Helper()
	want := b.o.delete(key)
	if e := b.s.Delete(key); e != want {
		b.t.Fatalf("Delete(%s): %v, not %v", show(key), e, want)
	}
	return want
}

// hold holds all answers against what they ought to be, those that ask for a text for each of these.
func (b *both) hold(texts ...string) {
	b.t.Helper()
	for _, x := range texts {
		want, wantError := b.o.get(x)
		if blob, e := b.s.Get(x); blob != want || e != wantError {
			b.t.Fatalf("Get(%s): %s, %v, not %s, %v", show(x), show(blob), e, show(want), wantError)
		}
		if l := b.s.Versions(x); !slices.Equal(l, b.o.versions(x)) {
			b.t.Fatalf("Versions(%s): %d, not %d", show(x), len(l), len(b.o.versions(x)))
		}
		if l := b.s.List(x); !slices.Equal(l, b.o.list(x)) {
			b.t.Fatalf("List(%s): %.20q, not %.20q", show(x), l, b.o.list(x))
		}
	}
	if l := b.s.Ever(); !slices.Equal(l, b.o.ever()) {
		b.t.Fatalf("Ever: %.20q, not %.20q", l, b.o.ever())
	}
	if n := b.s.Puts(); n != b.o.puts() {
		b.t.Fatalf("Puts: %d, not %d", n, b.o.puts())
	}
}

// show is a text that may be long, and of any bytes.
func show(s string) string {
	if len(s) > 40 {
		return strconv.Quote(s[:40]) + ".."
	}
	return strconv.Quote(s)
}

// textsOf are all texts of up to that many of those bytes.
func textsOf(bytes string, most int) []string {
	l := []string{""}
	for from := 0; most > 0; most-- {
		end := len(l)
		for _, s := range l[from:end] {
			for i := range len(bytes) {
				l = append(l, s+bytes[i:i+1])
			}
		}
		from = end
	}
	return l
}

// keys are some of many kinds: paths, runes, bytes that are no runes, beginnings of one another.
func keys() []string {
	return []string{
		"a", "aa", "aaa", "ab", "b", "B", "~", "9", "10", " ", "/", "//", "a/", "/a", "a\x00", "\x00", "\x00\x00", "a\xff", "\xff", "\xff\xfe",
		"f/anna/notes", "f/anna/bills", "f/annabel/notes", "f/ben/notes", "f/anna", "f/anna/", "m/anna/notes", "f",
		"\u00e4", "\u00e4b", "\u00c3", "\u03b1", "\u044f", "z", "e\u0301", "\xc3", "\xed\xa0\x80", "\U0010ffff", "\ufffd",
	}
}

// dice are numbers that come one behind the other, the same of the same beginning.
type dice struct{ n uint64 }

func (d *dice) roll(most int) int {
	d.n = d.n*6364136223846793005 + 1442695040888963407
	return int(d.n >> 33 % uint64(most))
}
