package wire_test

import (
	"slices"
	"strings"
	"testing"

	"letterlock/api"
	"letterlock/wire"
)

// someRows are of lengths next to which the number of their texts has more bytes.
func someRows() [][]string {
	rows := [][]string{{}, {""}, {"", "", ""}, {"a", "", "bc"}, someTexts()}
	for _, long := range []int{254, 255, 256, 257, 65536} {
		rows = append(rows, slices.Repeat([]string{"", "x", "yz"}, long)[:long])
	}
	return rows
}

// longest is how many bytes the longest text has.
func longest(l []string) int {
	most := 0
	for _, t := range l {
		most = max(most, len(t))
	}
	return most
}

// B1: the bytes of rows that are written out.
func TestPutAllOfSomeRows(t *testing.T) {
	for want, l := range map[string][]string{
		"\x00":                              {},
		"\x01\x01\x00":                      {""},
		"\x01\x02\x01\x01a\x00":             {"a", ""},
		"\x01\x02\x00\x01\x01a":             {"", "a"},
		"\x01\x01\x01\x05\x01\x01\x01\x01a": {"\x01\x01\x01\x01a"},
		"\x01\x02\x01\x02ab\x01\x01c":       {"ab", "c"},
	} {
		if got := wire.PutAll(l); got != want {
			t.Errorf("PutAll(%q) = %q", l, got)
		}
	}
}

// B1, B4: rows are put as the words say, and taken.
func TestPutAndTakeOfRows(t *testing.T) {
	for i, l := range someRows() {
		s := wire.PutAll(l)
		if len(l) < 1000 && s != oughtPutAll(l) {
			t.Errorf("row %d begins with %q", i, s[:min(9, len(s))])
		}
		for _, more := range []int{0, 1, greatest / 2} {
			if got, e := wire.TakeAll(s, len(l)+more, longest(l)+more); !slices.Equal(got, l) || e != api.OK {
				t.Errorf("row %d of %d: %d texts, %v", i, len(l), len(got), e)
			}
		}
	}
}

// B3: more texts than may be, by one and by more, whatever stands behind; and a bound below 0.
func TestTakeAllOfTooMany(t *testing.T) {
	for i, l := range someRows() {
		if len(l) == 0 {
			continue
		}
		s := wire.PutAll(l)
		for _, many := range []int{least, -1, 0, len(l) / 2, len(l) - 1} {
			for _, s := range []string{s, s + "x", s[:len(s)-1] + "\xff", wire.Put(uint64(len(l)))} {
				if got, e := wire.TakeAll(s, many, -1); len(got) != 0 || e != api.ErrBig {
					t.Errorf("row %d of %d, at most %d: %d texts, %v", i, len(l), many, len(got), e)
				}
			}
		}
	}
	for _, bound := range bounds {
		if got, e := wire.TakeAll("\x00", bound, bound); len(got) != 0 || e != api.OK {
			t.Errorf("no texts, at most %d: %d texts, %v", bound, len(got), e)
		}
	}
}

// B3: one text that is too long, or cut short, or of another form, at each place of a row.
func TestTakeAllOfAWrongText(t *testing.T) {
	for text, want := range map[string]api.Errno{
		"\x01\x04abcd":                         api.ErrBig,
		"\x02\x01\x00":                         api.ErrBig,
		"\x09":                                 api.ErrForm,
		"\x02\x00\x01a":                        api.ErrForm,
		"\x08\x00\x00\x00\x00\x00\x00\x00\x01": api.ErrForm,
	} {
		for at := range 4 {
			parts := []string{"\x00", "\x01\x01a", "\x01\x03xyz", "\x00"}
			parts[at] = text
			s := "\x01\x04" + strings.Join(parts, "")
			if got, e := wire.TakeAll(s, 4, 3); len(got) != 0 || e != want {
				t.Errorf("TakeAll(%q) = %q, %v", s, got, e)
			}
		}
	}
}

// B3: a row that is cut short at each place, and one with bytes left.
func TestTakeAllOfACutRow(t *testing.T) {
	s := wire.PutAll([]string{"a", "", "bcd", strings.Repeat("x", 300), ""})
	for long := range len(s) {
		if got, e := wire.TakeAll(s[:long], 5, 300); len(got) != 0 || e != api.ErrForm {
			t.Errorf("%d bytes: %q, %v", long, got, e)
		}
	}
	for _, left := range []string{"\x00", "x", "\xff", s} {
		if got, e := wire.TakeAll(s+left, 5, 300); len(got) != 0 || e != api.ErrForm {
			t.Errorf("%q left: %q, %v", left, got, e)
		}
	}
}

// B3: of two errors the first one: of the number, then of its bound, then of the texts from the left, then of what is left.
func TestTakeAllErrors(t *testing.T) {
	for _, c := range []struct {
		s          string
		many, most int
		want       api.Errno
	}{
		{"", -1, -1, api.ErrForm},
		{"\x01\x00", -1, -1, api.ErrForm},
		{"\x09", -1, -1, api.ErrForm},
		{"\x01\x02\x01\x02ab", 1, 1, api.ErrBig},
		{"\x01\x02", 1, 9, api.ErrBig},
		{"\x01\x02", 2, 9, api.ErrForm},
		{"\x01\x02\x01\x02ab\x09", 2, 1, api.ErrBig},
		{"\x01\x02\x09\x01\x02ab", 2, 1, api.ErrForm},
		{"\x01\x02\x01\x01a\x01\x02ab!", 2, 1, api.ErrBig},
		{"\x01\x02\x01\x01a\x01\x02a", 2, 1, api.ErrBig},
		{"\x01\x02\x01\x01a\x01\x02a", 2, 2, api.ErrForm},
		{"\x00\x00", 0, 0, api.ErrForm},
		{"\x01\x01\x00\x01\x01", 1, 0, api.ErrForm},
		{wire.Put(1<<63-1) + "\x00\x00", greatest, greatest, api.ErrForm},
		{wire.Put(1<<63-1) + "\x00\x01\x01a", greatest, 0, api.ErrBig},
		{wire.Put(1<<63) + "\x00\x00", greatest, greatest, api.ErrBig},
		{wire.Put(1<<64 - 1), least, least, api.ErrBig},
	} {
		if got, e := wire.TakeAll(c.s, c.many, c.most); len(got) != 0 || e != c.want {
			t.Errorf("TakeAll(%q, %d, %d) = %q, %v", c.s, c.many, c.most, got, e)
		}
	}
}

// B3, B4: TakeAll of all short texts, by each two bounds; what it takes was put so.
func TestTakeAllOfEachText(t *testing.T) {
	two := []int{-1, 0, 1, 2, greatest}
	eachText(func(s string) {
		for _, many := range two {
			for _, most := range two {
				l, e := wire.TakeAll(s, many, most)
				if want, f := oughtTakeAll(s, many, most); !slices.Equal(l, want) || e != f {
					t.Errorf("TakeAll(%q, %d, %d) = %q, %v", s, many, most, l, e)
				}
				if e == api.OK && wire.PutAll(l) != s {
					t.Errorf("TakeAll(%q, %d, %d) = %q, which was put otherwise", s, many, most, l)
				}
			}
		}
	})
}
