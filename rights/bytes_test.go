package rights_test

import (
	"strings"
	"testing"

	"letterlock/api"
	"letterlock/rights"
)

// taken holds Take against the rights whose bytes s is, or against none.
func taken(t *testing.T, s string, want api.Rights, e api.Errno) {
	t.Helper()
	if r, f := rights.Take(s); !same(r, want) || f != e {
		t.Errorf("Take(%.100q): %s, %v; not %s, %v", s, show(r), f, show(want), e)
	}
}

// refused holds Take against none.
func refused(t *testing.T, s string) {
	t.Helper()
	taken(t, s, api.Rights{}, api.ErrForm)
}

// G3: bytes, written out.
func TestPut(t *testing.T) {
	for i, c := range []struct {
		r    api.Rights
		want string
	}{
		{made("a", "b", 0, nil, nil), "\x01\x05" + "\x01\x01a" + "\x01\x01b" + "\x01\x01\x00" + "\x01\x01\x00" + "\x01\x01\x00"},
		{made("a", "b", 7, []string{"c"}, []string{}), "\x01\x05" + "\x01\x01a" + "\x01\x01b" + "\x01\x02\x01\x07" + "\x01\x05\x01\x01\x01\x01c" + "\x01\x01\x00"},
		{made("a", "b", 1, nil, []string{"c"}), "\x01\x05" + "\x01\x01a" + "\x01\x01b" + "\x01\x02\x01\x01" + "\x01\x01\x00" + "\x01\x05\x01\x01\x01\x01c"},
		{made("anna", "notes", 2, []string{"ben", "z"}, []string{"cy"}), "\x01\x05" + "\x01\x04anna" + "\x01\x05notes" + "\x01\x02\x01\x02" + "\x01\x0a\x01\x02\x01\x03ben\x01\x01z" + "\x01\x06\x01\x01\x01\x02cy"},
		{made("\u00df", "\u044f", 0, nil, nil), "\x01\x05" + "\x01\x02\xc3\x9f" + "\x01\x02\xd1\x8f" + "\x01\x01\x00" + "\x01\x01\x00" + "\x01\x01\x00"},
	} {
		if s, e := rights.Put(c.r); s != c.want || e != api.OK {
			t.Errorf("%d: %q, %v", i, s, e)
		}
		taken(t, c.want, c.r, api.OK)
	}
}

// G3, G4: all that is handed in is put as the words say, and what was put is taken.
func TestPutAsItOughtToBe(t *testing.T) {
	of := map[string]api.Rights{}
	for _, r := range all() {
		want, e := oughtPut(r)
		s, f := rights.Put(r)
		if s != want || f != e {
			t.Errorf("Put(%s): %q, %v", show(r), s, f)
		}
		if e != api.OK {
			continue
		}
		taken(t, s, r, api.OK)
		if other, there := of[s]; there && !same(other, r) {
			t.Errorf("%s and %s are put in the same way", show(r), show(other))
		}
		of[s] = r
	}
}

// G3: the longest names are taken, five of them, which need more bytes than one of a number tells.
func TestLongestRights(t *testing.T) {
	l := make([]string, mostOthers)
	for i := range l {
		l[i] = longest[2:] + "\u044a\u044b\u044c\u044d\u044e"[2*i:2*i+2]
	}
	for _, r := range []api.Rights{made(longest, longest, 7, l, nil), made(longest, longest, 7, nil, l), made(longest, longest, 7, l[:2], l[2:])} {
		s, e := rights.Put(r)
		if e != api.OK {
			t.Fatal(e)
		}
		taken(t, s, r, api.OK)
	}
}

// G3: rights that are not right are not taken, though they are put as others would be.
func TestWrongRightsAreNotTaken(t *testing.T) {
	for _, r := range wrong() {
		s := row(r.Owner, r.File, number(uint64(r.Epoch)), row(r.Readers...), row(r.Writers...))
		refused(t, s)
	}
}

// G3: bytes of another form, written out.
func TestForms(t *testing.T) {
	const nobody = "\x00"
	good := row("a", "b", number(3), row("c"), row("d", "e"))
	taken(t, good, made("a", "b", 3, []string{"c"}, []string{"d", "e"}), api.OK)
	for _, s := range []string{
		"", "\x00", "\x01", "\x01\x05", "\xff", "a", good + "\x00", good + "x", good + good, "\x00" + good, "x" + good,
		row(), row("a"), row("a", "b"), row("a", "b", number(3)), row("a", "b", number(3), row("c")),
		row("a", "b", number(3), row("c"), row("d"), ""), row("a", "b", number(3), row("c"), row("d"), row("e")),
		row("a", "b", "", row("c"), row("d")), row("a", "b", "\x03", row("c"), row("d")), row("a", "b", number(3)+"x", row("c"), row("d")),
		row("a", "b", number(3)+"\x00", row("c"), row("d")), row("a", "b", "\x01\x00", nobody, nobody), row("a", "b", "\x02\x00\x03", nobody, nobody),
		row("a", "b", "\x09\x00\x00\x00\x00\x00\x00\x00\x00\x03", nobody, nobody), row("a", "b", "3", nobody, nobody), row("a", "b", "\x01", nobody, nobody),
		row("a", "b", number(3), "", nobody), row("a", "b", number(3), nobody, ""), row("a", "b", number(3), "c", nobody), row("a", "b", number(3), nobody, "d"),
		row("a", "b", number(3), row("c")+"x", nobody), row("a", "b", number(3), nobody, row("d")+"\x00"), row("a", "b", number(3), nobody+nobody, nobody),
		row("a", "b", number(3), "\x01\x01\x01\x02c", nobody), row("a", "b", number(3), "\x01\x02\x01\x01c", nobody), row("a", "b", number(3), nobody, "\x02\x00\x01\x01\x01d"),
		row("b", "", number(3), nobody, nobody), row("a", "b", number(3), row("c", "c"), nobody), row("a", "b", number(3), row("d", "c"), nobody),
		row("a", "b", number(3), row("c", "d", "e"), row("f", "g", "h")), row("a", "b", number(3), row("c", "d", "e", "f", "g", "h"), nobody), row("a", "b", number(3), nobody, row("c", "d", "e", "f", "g", "h")),
		"\x02\x00\x05" + good[2:], "\x01\x06" + good[2:], "\x01\x04" + good[2:],
	} {
		refused(t, s)
	}
}

// G3: epochs in bytes: those of 0 to 7 alone are taken, none that goes round to one of these.
func TestEpochsInBytes(t *testing.T) {
	for n := range uint64(600) {
		s := row("a", "b", number(n), "\x00", "\x00")
		if n <= lastEpoch {
			taken(t, s, api.Rights{Owner: "a", File: "b", Epoch: int(n)}, api.OK)
		} else {
			refused(t, s)
		}
	}
	for bit := 4; bit < 64; bit++ {
		for _, n := range []uint64{1 << bit, 1<<bit + 3, 1<<bit - 1, -(uint64(1) << bit), 3 - uint64(1)<<bit} {
			refused(t, row("a", "b", number(n), "\x00", "\x00"))
		}
	}
}

// ofPut are the rights that all right ones that are handed in are put as.
func ofPut() map[string]api.Rights {
	of := map[string]api.Rights{}
	for _, r := range all() {
		if s, e := oughtPut(r); e == api.OK {
			of[s] = r
		}
	}
	return of
}

// fits tells what Take ought to do with any bytes: take those whose Put they are, and else refuse.
func fits(t *testing.T, s string, of map[string]api.Rights) {
	t.Helper()
	if r, there := of[s]; there {
		taken(t, s, r, api.OK)
		return
	}
	r, e := rights.Take(s)
	if e == api.OK {
		if put, f := oughtPut(r); put != s || f != api.OK {
			t.Errorf("%q was taken as %s, which is put as %q, %v", s, show(r), put, f)
		}
		return
	}
	if e != api.ErrForm || !same(r, api.Rights{}) {
		t.Errorf("%q: %s, %v", s, show(r), e)
	}
}

// G3: bytes that were put, cut at each place, and with each byte changed, left out, or one more put in.
func TestBytesThatWereSpoilt(t *testing.T) {
	of := ofPut()
	for _, r := range []api.Rights{made("a", "b", 0, nil, nil), made("a", "b", 7, []string{"c"}, []string{"d"}), made("anna", "notes", 2, []string{"-", "ben"}, []string{"a", "z", "\u00df"})} {
		s, e := rights.Put(r)
		if e != api.OK {
			t.Fatal(e)
		}
		for at := range len(s) {
			refused(t, s[:at])
			fits(t, s[at+1:], of)
			fits(t, s[:at]+s[at+1:], of)
			for b := range 256 {
				one := string([]byte{byte(b)})
				fits(t, s[:at]+one+s[at+1:], of)
				fits(t, s[:at]+one+s[at:], of)
			}
		}
	}
}

// G3: rows of pieces, each of them as it must be or not: taken just if all are, and what they tell is right.
func TestRowsOfPieces(t *testing.T) {
	type list struct {
		s     string
		names []string
		fine  bool
	}
	var lists []list
	for _, names := range [][]string{nil, {"a"}, {"b"}, {"a", "b"}, {"b", "a"}, {"a", "a"}, {"B"}, {"c", "d", "e"}, {"c", "d", "e", "f", "g"}, {"c", "d", "e", "f", "g", "h"}} {
		lists = append(lists, list{row(names...), names, true}, list{row(names...) + "\x00", names, false}, list{row(names...)[1:], names, false})
	}
	epochs := []list{{number(0), make([]string, 0), true}, {number(7), make([]string, 7), true}, {number(8), make([]string, 8), true}, {"\x01\x00", nil, false}, {"", nil, false}}
	for _, owner := range []string{"a", "b", "x", "X", ""} {
		for _, epoch := range epochs {
			for _, readers := range lists {
				for _, writers := range lists {
					s := row(owner, "b", epoch.s, readers.s, writers.s)
					r := made(owner, "b", len(epoch.names), readers.names, writers.names)
					if epoch.fine && readers.fine && writers.fine && oughtRight(r) {
						taken(t, s, r, api.OK)
					} else {
						refused(t, s)
					}
				}
			}
		}
	}
}

// G3, P1: bytes that tell of more than is there, and great ones.
func TestGreatBytes(t *testing.T) {
	const most = "\x08\xff\xff\xff\xff\xff\xff\xff\xff"
	long := strings.Repeat("a", 1<<20)
	many := row(manyNames()...)
	for _, s := range []string{
		most, most + most, "\x08\x7f\xff\xff\xff\xff\xff\xff\xff", "\x01\x05" + most, "\x01\x05\x08\x7f\xff\xff\xff\xff\xff\xff\xffa",
		row("a", "b", number(0), most, "\x00"), row("a", "b", number(0), "\x00", most), row("a", "b", number(0), "\x01\x01"+most, "\x00"), row("a", "b", most, "\x00", "\x00"),
		row(long, "b", number(0), "\x00", "\x00"), row("a", long, number(0), "\x00", "\x00"), row("a", "b", long, "\x00", "\x00"), row("a", "b", number(0), row(long), "\x00"), row("a", "b", number(0), "\x00", row(long)),
		row("a", "b", number(0), many, "\x00"), row("a", "b", number(0), "\x00", many), many,
		long, strings.Repeat("\x00", 1<<20), strings.Repeat("\x01", 1<<20), strings.Repeat("\x01\x05", 1<<16), strings.Repeat("\x08", 1<<16), strings.Repeat("\xff", 1<<16),
	} {
		refused(t, s)
	}
}
