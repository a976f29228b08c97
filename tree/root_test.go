package tree_test

import (
	"strings"
	"testing"

	"letterlock/api"
	"letterlock/term"
	"letterlock/tree"
)

// J1: leaves that are written out.
func TestSomeLeavesOfFiles(t *testing.T) {
	for i, c := range []struct {
		file    string
		version uint64
		want    string
	}{
		{"", 0, "pt\x00a\x00"},
		{"f", 0, "pt\x01\x01fa\x00"},
		{"notes", 5, "pt\x01\x05notesa\x01\x05"},
		{"anna/notes", 258, "pt\x01\x0aanna/notesa\x02\x01\x02"},
		{"No Name\x00", 1 << 63, "pt\x01\x08No Name\x00a\x08\x80\x00\x00\x00\x00\x00\x00\x00"}, // any text
		{"\xff", 1<<64 - 1, "pt\x01\x01\xffa\x08\xff\xff\xff\xff\xff\xff\xff\xff"},
	} {
		if s, e := tree.Leaf(c.file, c.version); s != c.want || e != api.OK {
			t.Errorf("%d: %q, %v", i, s, e)
		}
	}
}

// J1: the leaf of each file and each version, next to the greatest ones, too.
func TestLeafAsItOughtToBe(t *testing.T) {
	l := append([]string{}, names...)
	for _, long := range []int{2000, 3980, 3984, 3985, 3986, 3987, 3990, 3991, 3992, 3993, 3994, 3995, 3996, 3997, 4000, 4001, 65536, 1 << 20} {
		l = append(l, strings.Repeat("x", long), strings.Repeat("\x80", long))
	}
	for _, file := range l {
		for _, version := range versions {
			want, e := oughtLeaf(file, version)
			if s, f := tree.Leaf(file, version); s != want || f != e {
				t.Errorf("Leaf(%.60q of %d bytes, %d): %.60q, %v", file, len(file), version, s, f)
			}
		}
	}
}

// J1: the bounds of a leaf, written out.
func TestGreatestLeaf(t *testing.T) {
	for i, c := range []struct {
		long    int
		version uint64
		want    api.Errno
	}{{3993, 0, api.OK}, {3993, 1, api.ErrBig}, {3992, 1, api.OK}, {3994, 0, api.ErrBig}, {3985, 1 << 63, api.OK}, {3986, 1 << 63, api.ErrBig}, {3996, 0, api.ErrBig}, {3997, 0, api.ErrBig}} {
		s, e := tree.Leaf(strings.Repeat("x", c.long), c.version)
		if e != c.want || (s == "") != (e != api.OK) || e == api.OK && len(s) != mostBytes {
			t.Errorf("%d: %d bytes, %v", i, len(s), e)
		}
	}
}

// J1: other files, and other versions, have other leaves, and the calls that tell of terms tell them.
func TestWhatALeafTells(t *testing.T) {
	for _, file := range names {
		for _, version := range versions {
			s, _ := tree.Leaf(file, version)
			parts, e := term.Parts(s)
			if e != api.OK || term.Kind(s) != term.Pair || len(parts) != 2 {
				t.Fatalf("%q, %v", s, e)
			}
			w, e1 := term.Words(parts[0])
			n, e2 := term.Number(parts[1])
			if w != file || n != version || e1 != api.OK || e2 != api.OK {
				t.Errorf("%q: %q, %d", s, w, n)
			}
		}
	}
}

// J1: roots that are written out.
func TestSomeRoots(t *testing.T) {
	const a, b, c, d, e = "pt\x01\x01aa\x00", "pt\x01\x01ba\x01\x01", "pt\x01\x01ca\x01\x02", "pt\x00a\x00", "pt\x01\x01ea\x01\x04"
	for i, x := range []struct {
		leaves []string
		want   string
	}{
		{[]string{a}, "h" + a},
		{[]string{a, b}, "hph" + a + "h" + b},
		{[]string{b, a}, "hph" + b + "h" + a},
		{[]string{a, a}, "hph" + a + "h" + a},
		{[]string{a, b, c}, "hphph" + a + "h" + b + "h" + c},
		{[]string{a, b, c, d}, "hphph" + a + "h" + b + "hph" + c + "h" + d},
		{[]string{a, b, c, d, e}, "hphphph" + a + "h" + b + "hph" + c + "h" + d + "h" + e},
		{[]string{a, b, c, d, e, a}, "hphphph" + a + "h" + b + "hph" + c + "h" + d + "hph" + e + "h" + a},
		{[]string{a, b, c, d, e, a, b}, "hphphph" + a + "h" + b + "hph" + c + "h" + d + "hphph" + e + "h" + a + "h" + b},
		{[]string{a, b, c, d, e, a, b, c}, "hphphph" + a + "h" + b + "hph" + c + "h" + d + "hphph" + e + "h" + a + "hph" + b + "h" + c},
	} {
		if s, e := tree.Root(x.leaves); s != x.want || e != api.OK {
			t.Errorf("%d: %q, %v", i, s, e)
		}
	}
}

// rooted asks for a row's root, and holds it against the words.
func rooted(t *testing.T, l []string) (string, api.Errno) {
	t.Helper()
	want, e := oughtRoot(l)
	s, f := tree.Root(l)
	if s != want || f != e {
		t.Errorf("Root(%s) = %s, %v", show(l), show(s), f)
	}
	return s, f
}

// J1: the root of each row, right, wrong or too great, as the words say.
func TestRootAsItOughtToBe(t *testing.T) {
	told := map[api.Errno]int{}
	for _, l := range rows() {
		s, e := rooted(t, l)
		if e == api.OK && term.Kind(s) != term.Hash {
			t.Errorf("%s: %s", show(l), show(s))
		}
		told[e]++
	}
	if told[api.OK] < 500 || told[api.ErrBig] < 200 || told[api.ErrArg] < 1000 {
		t.Error(told)
	}
}

// J1: the bounds and the errors of a root, written out.
func TestErrorsOfRoot(t *testing.T) {
	const a = "pt\x01\x01aa\x00"
	for i, c := range []struct {
		leaves []string
		want   api.Errno
	}{
		{nil, api.ErrArg}, {[]string{}, api.ErrArg}, {files(1), api.OK}, {files(8), api.OK}, {files(9), api.ErrArg}, {files(16), api.ErrArg},
		{[]string{""}, api.ErrArg}, {[]string{a, ""}, api.ErrArg}, {[]string{"", a}, api.ErrArg}, {[]string{a + "x"}, api.ErrArg}, {[]string{a, a[1:]}, api.ErrArg},
		{[]string{"h" + a}, api.ErrArg}, {[]string{"pa\x00t\x00"}, api.ErrArg}, {[]string{"pt\x00t\x00"}, api.ErrArg}, {[]string{"pa\x00a\x00"}, api.ErrArg}, {[]string{"st\x00a\x00"}, api.ErrArg}, {[]string{"t\x00"}, api.ErrArg},
		{[]string{leafAs(3999)}, api.OK}, {[]string{leafAs(4000)}, api.ErrBig}, {[]string{leafAs(4001)}, api.ErrArg},
		{[]string{leafAs(2000), leafAs(1996)}, api.OK}, {[]string{leafAs(2000), leafAs(1997)}, api.ErrBig}, {[]string{leafAs(4000), leafAs(4000)}, api.ErrBig}, {[]string{a, leafAs(4000)}, api.ErrBig}, {[]string{leafAs(4000), a}, api.ErrBig},
		{[]string{leafAs(4000), "x"}, api.ErrArg}, {[]string{"x", leafAs(4000)}, api.ErrArg}, {[]string{leafAs(2000), leafAs(2000), "t\x00"}, api.ErrArg},
	} {
		if s, e := tree.Root(c.leaves); e != c.want || (s == "") != (e != api.OK) {
			t.Errorf("%d: %.60q, %v", i, s, e)
		}
	}
	for many := 1; many <= mostLeaves; many++ {
		for _, l := range brimful(many, mostBytes) {
			if s, e := tree.Root(l); len(s) != mostBytes || e != api.OK {
				t.Errorf("%s: %d bytes, %v", show(l), len(s), e)
			}
		}
		for _, l := range brimful(many, mostBytes+1) {
			if s, e := tree.Root(l); s != "" || e != api.ErrBig {
				t.Errorf("%s: %d bytes, %v", show(l), len(s), e)
			}
		}
	}
}

// J1: rows that differ, if only by their order, or by where they end, have other roots.
func TestOtherRowsHaveOtherRoots(t *testing.T) {
	of := map[string]string{}
	walk(4, files(3), func(l []string) {
		s, e := rooted(t, l)
		if len(l) > 0 && e != api.OK {
			t.Fatal(e)
		}
		if other, there := of[s]; there {
			t.Errorf("%s: the same root as of %s", show(l), other)
		}
		of[s] = show(l)
	})
	if len(of) != 1+3+9+27+81 {
		t.Error(len(of))
	}
}

// walk goes through all rows of at most so many of these.
func walk(most int, of []string, each func(l []string)) {
	var on func(l []string)
	on = func(l []string) {
		each(l)
		if len(l) == most {
			return
		}
		for _, x := range of {
			on(append(l[:len(l):len(l)], x))
		}
	}
	on(nil)
}
