package store_test

import (
	"slices"
	"strconv"
	"strings"
	"testing"

	"letterlock/api"
	"letterlock/store"
)

// L1: of nothing nothing is there, nor was.
func TestNewIsNothing(t *testing.T) {
	s := store.New()
	for _, x := range append(keys(), "", strings.Repeat("k", 201)) {
		if blob, e := s.Get(x); blob != "" || e != api.ErrNone {
			t.Errorf("Get(%q): %q, %v", x, blob, e)
		}
		if e := s.Delete(x); e != api.ErrNone {
			t.Errorf("Delete(%q): %v", x, e)
		}
		if len(s.List(x)) > 0 || len(s.Versions(x)) > 0 {
			t.Errorf("%q: %q, %q", x, s.List(x), s.Versions(x))
		}
	}
	if len(s.Ever()) > 0 || s.Puts() != 0 {
		t.Errorf("%q, %d", s.Ever(), s.Puts())
	}
}

// L1: the bounds are those of the words.
func TestLimits(t *testing.T) {
	if store.MaxKey != 200 || store.MaxBlob != 40000 || store.MaxPuts != 2000 {
		t.Error(store.MaxKey, store.MaxBlob, store.MaxPuts)
	}
}

// L1, L2: calls one behind the other, and what is told, written out.
func TestSomeCalls(t *testing.T) {
	s := store.New()
	for i, c := range []struct {
		do      string // '+' puts, '-' deletes
		want    api.Errno
		get     string // at "a"
		got     api.Errno
		there   string
		history string // at "a"
		puts    int
	}{
		{"-a", api.ErrNone, "", api.ErrNone, "", "", 0},
		{"+a=x", api.OK, "x", api.OK, "a", "x", 1},
		{"+a=y", api.OK, "y", api.OK, "a", "x y", 2},
		{"-a", api.OK, "", api.ErrNone, "", "x y", 2},
		{"-a", api.ErrNone, "", api.ErrNone, "", "x y", 2},
		{"+b=z", api.OK, "", api.ErrNone, "b", "x y", 3},
		{"+=z", api.ErrArg, "", api.ErrNone, "b", "x y", 3},
		{"+a=x", api.OK, "x", api.OK, "a b", "x y x", 4},
		{"+a=x", api.OK, "x", api.OK, "a b", "x y x x", 5},
		{"+ab=w", api.OK, "x", api.OK, "a ab b", "x y x x", 6},
		{"-ab", api.OK, "x", api.OK, "a b", "x y x x", 6},
		{"-b", api.OK, "x", api.OK, "a", "x y x x", 6},
		{"-", api.ErrNone, "x", api.OK, "a", "x y x x", 6},
		{"+a=", api.OK, "", api.OK, "a", "x y x x ", 7},
		{"-a", api.OK, "", api.ErrNone, "", "x y x x ", 7},
	} {
		key, blob, puts := strings.Cut(c.do[1:], "=")
		e := api.OK
		if puts {
			e = s.Put(key, blob)
		} else {
			e = s.Delete(key)
		}
		if e != c.want {
			t.Errorf("%d: %s: %v", i, c.do, e)
		}
		if blob, e := s.Get("a"); blob != c.get || e != c.got {
			t.Errorf("%d: behind %s %q, %v", i, c.do, blob, e)
		}
		if l := strings.Join(s.List(""), " "); l != c.there {
			t.Errorf("%d: behind %s there are %q", i, c.do, l)
		}
		if l := strings.Join(s.Versions("a"), " "); l != c.history {
			t.Errorf("%d: behind %s there were %q", i, c.do, l)
		}
		if s.Puts() != c.puts {
			t.Errorf("%d: behind %s %d puts", i, c.do, s.Puts())
		}
	}
	if l := s.Ever(); !slices.Equal(l, []string{"a", "ab", "b"}) {
		t.Errorf("%q", l)
	}
}

// L1: keys of each length next to which they are refused: bytes are counted, not runes.
func TestBoundOfAKey(t *testing.T) {
	b := newBoth(t)
	for i, c := range []struct {
		key  string
		want api.Errno
	}{
		{"", api.ErrArg}, {"k", api.OK}, {strings.Repeat("k", 199), api.OK}, {strings.Repeat("k", 200), api.OK}, {strings.Repeat("k", 201), api.ErrArg},
		{strings.Repeat("k", 202), api.ErrArg}, {strings.Repeat("k", 256), api.ErrArg}, {strings.Repeat("k", 257), api.ErrArg}, {strings.Repeat("k", 1<<16+1), api.ErrArg},
		{strings.Repeat("\u00e4", 100), api.OK}, {strings.Repeat("\u00e4", 101), api.ErrArg}, {"k" + strings.Repeat("\u00e4", 100), api.ErrArg}, {strings.Repeat("\u00e4", 200), api.ErrArg},
		{strings.Repeat("\x00", 200), api.OK}, {strings.Repeat("\x00", 201), api.ErrArg}, {strings.Repeat("\xff", 200), api.OK}, {strings.Repeat("\xff", 201), api.ErrArg},
	} {
		if e := b.put(c.key, "x"); e != c.want {
			t.Errorf("%d: %v", i, e)
		}
		b.hold(c.key, "", "k")
	}
	for long := 190; long < 210; long++ {
		key := strings.Repeat("/", long)
		if e := b.put(key, "x"); (e == api.OK) != (long <= 200) || e != api.OK && e != api.ErrArg {
			t.Errorf("%d bytes: %v", long, e)
		}
		b.hold(key)
		if e := b.delete(key); (e == api.OK) != (long <= 200) || e != api.OK && e != api.ErrNone {
			t.Errorf("%d bytes: %v", long, e)
		}
		b.hold(key, "/")
	}
}

// L1: a key is any bytes, each one another place.
func TestKeysOfEachByte(t *testing.T) {
	b := newBoth(t)
	for i := range 256 {
		one := string([]byte{byte(i)})
		b.put(one, "of "+strconv.Itoa(i))
		b.put("a"+one, one)
		b.put(one+one, one)
	}
	for i := range 256 {
		one := string([]byte{byte(i)})
		b.hold(one, "a"+one, one+one)
		if blob, e := b.s.Get(one); blob != "of "+strconv.Itoa(i) || e != api.OK {
			t.Errorf("byte %d: %q, %v", i, blob, e)
		}
	}
}

// L1: blobs of each length next to which they are refused.
func TestBoundOfABlob(t *testing.T) {
	b := newBoth(t)
	for i, c := range []struct {
		blob string
		want api.Errno
	}{
		{"", api.OK}, {"x", api.OK}, {strings.Repeat("x", 39999), api.OK}, {strings.Repeat("y", 40000), api.OK}, {strings.Repeat("z", 40001), api.ErrBig},
		{strings.Repeat("x", 40002), api.ErrBig}, {strings.Repeat("x", 1<<16), api.ErrBig}, {strings.Repeat("x", 1<<24), api.ErrBig},
		{strings.Repeat("\u00e4", 20000), api.OK}, {strings.Repeat("\u00e4", 20001), api.ErrBig}, {"x" + strings.Repeat("\u00e4", 20000), api.ErrBig},
		{strings.Repeat("\x00", 40000), api.OK}, {strings.Repeat("\x00", 40001), api.ErrBig}, {strings.Repeat("\xff", 40000), api.OK},
	} {
		if e := b.put("a", c.blob); e != c.want {
			t.Errorf("%d: %v", i, e)
		}
		b.hold("a")
		if e := b.put("k"+strconv.Itoa(i), c.blob); e != c.want {
			t.Errorf("%d: %v", i, e)
		}
		b.hold("k"+strconv.Itoa(i), "k")
	}
}

// L1, P2: of several errors the first one is told.
func TestFirstError(t *testing.T) {
	b := newBoth(t)
	wrongKeys, bigBlob := []string{"", strings.Repeat("k", 201)}, strings.Repeat("x", 40001)
	refused := func(full bool) {
		t.Helper()
		for _, key := range wrongKeys {
			if b.put(key, "x") != api.ErrArg || b.put(key, bigBlob) != api.ErrArg || b.delete(key) != api.ErrNone {
				t.Errorf("%d bytes, %v", len(key), full)
			}
			b.hold(key)
		}
		if b.put("a", bigBlob) != api.ErrBig || b.put("new", bigBlob) != api.ErrBig {
			t.Errorf("a great blob, %v", full)
		}
		b.hold("a", "new")
	}
	refused(false)
	b.put("a", "there")
	refused(false)
	for b.o.puts() < 2000 {
		b.put("b", "x")
	}
	refused(true)
	if b.put("a", "x") != api.ErrState || b.put("new", "x") != api.ErrState {
		t.Error("full")
	}
	b.hold("a", "b", "new", "")
}

// L1: 2000 are put, at one key, or at as many, or at some; not one more, wherever it is.
func TestBoundOfPuts(t *testing.T) {
	for _, many := range []int{1, 2, 7, 1999, 2000} {
		s := store.New()
		for i := range 2000 {
			if s.Puts() != i {
				t.Fatalf("%d keys: %d puts, not %d", many, s.Puts(), i)
			}
			if e := s.Put("k"+strconv.Itoa(i%many), strconv.Itoa(i)); e != api.OK {
				t.Fatalf("%d keys: put %d: %v", many, i, e)
			}
		}
		for range 3 {
			if s.Put("k0", "x") != api.ErrState || s.Put("new", "x") != api.ErrState || s.Put("k0", "") != api.ErrState || s.Puts() != 2000 {
				t.Fatalf("%d keys: more are put", many)
			}
		}
		last := strconv.Itoa(1999 / many * many) // of the puts at k0
		if blob, e := s.Get("k0"); blob != last || e != api.OK {
			t.Errorf("%d keys: %q, %v, not %s", many, blob, e, last)
		}
		if len(s.List("")) != many || len(s.Ever()) != many || len(s.Versions("k0")) != (2000+many-1)/many || len(s.Versions("new")) != 0 {
			t.Errorf("%d keys: %d, %d, %d", many, len(s.List("")), len(s.Ever()), len(s.Versions("k0")))
		}
	}
}

// L1: what is deleted, or refused, counts for nothing: it gives no put back, and takes none.
func TestWhatCountsAsPut(t *testing.T) {
	b := newBoth(t)
	for i := range 2000 {
		key := "k" + strconv.Itoa(i%3)
		if b.put(key, "x") != api.OK || b.put("", "x") != api.ErrArg || b.put(key, strings.Repeat("x", 40001)) != api.ErrBig {
			t.Fatalf("put %d", i)
		}
		if i%2 == 0 && b.delete(key) != api.OK || b.delete("none") != api.ErrNone {
			t.Fatalf("delete %d", i)
		}
	}
	b.hold("k0", "k1", "k2", "k", "none", "")
	for _, key := range []string{"k0", "k1", "k2", "none"} {
		if b.put(key, "y") != api.ErrState {
			t.Errorf("%s: more are put", key)
		}
	}
	for _, key := range b.o.list("") {
		if b.delete(key) != api.OK || b.delete(key) != api.ErrNone || b.put(key, "y") != api.ErrState {
			t.Errorf("%s is not deleted of what is full", key)
		}
		b.hold("k0", "k1", "k2", "")
	}
	if b.s.Puts() != 2000 || len(b.s.List("")) > 0 || len(b.s.Ever()) != 3 {
		t.Errorf("%d, %q, %q", b.s.Puts(), b.s.List(""), b.s.Ever())
	}
}

// L1: what is deleted is that key alone, and may be put again.
func TestDeleteOfEachKey(t *testing.T) {
	for _, gone := range keys() {
		b := newBoth(t)
		for _, key := range keys() {
			b.put(key, "of "+key)
		}
		if b.delete(gone) != api.OK || b.delete(gone) != api.ErrNone {
			t.Errorf("%q", gone)
		}
		b.hold(keys()...)
		for _, key := range keys() {
			if blob, e := b.s.Get(key); (e == api.OK) == (key == gone) || e == api.OK && blob != "of "+key {
				t.Errorf("%q is deleted: %q at %q, %v", gone, blob, key, e)
			}
		}
		if b.put(gone, "again") != api.OK || len(b.s.Versions(gone)) != 2 {
			t.Errorf("%q is not put again", gone)
		}
		b.hold(keys()...)
	}
}
