package fresh_test

import (
	"slices"
	"strings"
	"testing"

	"letterlock/api"
	"letterlock/fresh"
	"letterlock/wire"
)

// taken holds Take against the stamp whose bytes b is.
func taken(t *testing.T, b string, want fresh.Stamp) {
	t.Helper()
	if s, e := fresh.Take(b); s != want || e != api.OK {
		t.Errorf("Take(%s): %s, %v; not %s", show(b), show(s), e, show(want))
	}
}

// refused holds Take against none.
func refused(t *testing.T, b string) {
	t.Helper()
	if s, e := fresh.Take(b); s != (fresh.Stamp{}) || e != api.ErrForm {
		t.Errorf("Take(%s): %s, %v", show(b), show(s), e)
	}
}

// K2: what makes a stamp another than a right one, written out.
func TestRight(t *testing.T) {
	const root, sig = "hpt\x00a\x00", "ga\x00a\x00"
	for i, c := range []struct {
		s    fresh.Stamp
		want bool
	}{
		{fresh.Stamp{"anna", 7, 0, root, sig}, true}, {fresh.Stamp{"anna", 0, 1, root, sig}, true}, {fresh.Stamp{"anna", 1<<64 - 1, 8, root, sig}, true},
		{fresh.Stamp{"anna", 7, 9, root, sig}, false}, {fresh.Stamp{"anna", 7, -1, root, sig}, false}, {fresh.Stamp{"anna", 7, 1 << 32, root, sig}, false}, {fresh.Stamp{"anna", 7, -1 << 63, root, sig}, false}, {fresh.Stamp{"anna", 7, 1<<63 - 1, root, sig}, false},
		{fresh.Stamp{"", 7, 1, root, sig}, false}, {fresh.Stamp{"Anna", 7, 1, root, sig}, false}, {fresh.Stamp{"anna/x", 7, 1, root, sig}, false}, {fresh.Stamp{"\xff", 7, 1, root, sig}, false},
		{fresh.Stamp{longest, 7, 1, root, sig}, true}, {fresh.Stamp{longest + "a", 7, 1, root, sig}, false},
		{fresh.Stamp{"anna", 7, 1, "", sig}, false}, {fresh.Stamp{"anna", 7, 1, "x", sig}, false}, {fresh.Stamp{"anna", 7, 1, root + "x", sig}, false}, {fresh.Stamp{"anna", 7, 1, root[1:] + "x", sig}, false},
		{fresh.Stamp{"anna", 7, 1, "t\x00", sig}, true}, {fresh.Stamp{"anna", 7, 8, "a\x00", sig}, true}, {fresh.Stamp{"anna", 7, 0, sig, sig}, true}, {fresh.Stamp{"anna", 7, 0, "ua\x00", sig}, true}, // of any kind
		{fresh.Stamp{"anna", 7, 1, deep, sig}, true}, {fresh.Stamp{"anna", 7, 1, "h" + deep, sig}, false}, {fresh.Stamp{"anna", 7, 1, words(3996), sig}, true}, {fresh.Stamp{"anna", 7, 1, words(3997), sig}, false},
		{fresh.Stamp{"anna", 7, 1, root, ""}, false}, {fresh.Stamp{"anna", 7, 1, root, root}, false}, {fresh.Stamp{"anna", 7, 1, root, "g"}, false}, {fresh.Stamp{"anna", 7, 1, root, "ga\x00"}, false}, {fresh.Stamp{"anna", 7, 1, root, sig + "x"}, false},
		{fresh.Stamp{"anna", 7, 1, root, "pa\x00a\x00"}, false}, {fresh.Stamp{"anna", 7, 1, root, "sa\x00a\x00"}, false}, {fresh.Stamp{"anna", 7, 1, root, "a\x00"}, false},
		{fresh.Stamp{"anna", 7, 1, root, "g" + deep[1:] + "t\x00"}, true}, {fresh.Stamp{"anna", 7, 1, root, "g" + deep + "t\x00"}, false}, {fresh.Stamp{"anna", 7, 1, root, "ga\x00" + words(3993)}, true}, {fresh.Stamp{"anna", 7, 1, root, "ga\x00" + words(3994)}, false},
		{fresh.Stamp{}, false}, {fresh.Stamp{Owner: "anna"}, false}, {fresh.Stamp{Owner: "anna", Root: root}, false}, {fresh.Stamp{Owner: "anna", Sig: sig}, false}, {fresh.Stamp{Root: root, Sig: sig}, false},
	} {
		if fresh.Right(c.s) != c.want || oughtRight(c.s) != c.want {
			t.Errorf("%d: %s: not %v", i, show(c.s), c.want)
		}
	}
}

// K2: bytes, written out.
func TestPut(t *testing.T) {
	for i, c := range []struct {
		s    fresh.Stamp
		want string
	}{
		{fresh.Stamp{"anna", 0, 0, "t\x00", "ga\x00t\x00"}, "\x01\x05" + "\x01\x04anna" + "\x01\x01\x00" + "\x01\x01\x00" + "\x01\x02t\x00" + "\x01\x05ga\x00t\x00"},
		{fresh.Stamp{"\u044f", 258, 8, "ha\x00", "ga\x01\x01t\x00"}, "\x01\x05" + "\x01\x02\xd1\x8f" + "\x01\x03\x02\x01\x02" + "\x01\x02\x01\x08" + "\x01\x03ha\x00" + "\x01\x06ga\x01\x01t\x00"},
		{fresh.Stamp{"ben", 1<<64 - 1, 1, words(3996), "ga\x00t\x00"}, "\x01\x05" + "\x01\x03ben" + "\x01\x09\x08\xff\xff\xff\xff\xff\xff\xff\xff" + "\x01\x02\x01\x01" + "\x02\x0f\xa0" + words(3996) + "\x01\x05ga\x00t\x00"},
	} {
		if b, e := fresh.Put(c.s); b != c.want || e != api.OK {
			t.Errorf("%d: %s, %v", i, show(b), e)
		}
		taken(t, c.want, c.s)
	}
}

// K2: which stamps are right, and the bytes of these; what was put is taken, and no other is.
func TestBytesAsTheyOughtToBe(t *testing.T) {
	right, wrong := 0, 0
	put := map[string]fresh.Stamp{}
	for _, s := range append(rightStamps(), changed()...) {
		is, b, e := oughtRight(s), "", api.ErrArg
		if is {
			b, e = oughtPut(s), api.OK
			right++
		} else {
			wrong++
		}
		if fresh.Right(s) != is {
			t.Errorf("Right(%s): not %v", show(s), is)
		}
		if got, f := fresh.Put(s); got != b || f != e {
			t.Errorf("Put(%s): %s, %v", show(s), show(got), f)
		}
		if !is {
			refused(t, oughtPut(s))
			continue
		}
		taken(t, b, s)
		if other, there := put[b]; there && other != s {
			t.Errorf("%s and %s are put in the same way", show(other), show(s))
		}
		put[b] = s
	}
	if right < 500 || wrong < 500 {
		t.Error(right, wrong)
	}
}

// K2: bytes of another form, written out.
func TestForms(t *testing.T) {
	s := fair(files(3)).s
	time, many, root, sig := number(7), number(3), s.Root, s.Sig
	whole := row("anna", time, many, root, sig)
	taken(t, whole, s)
	for _, b := range []string{
		"", "\x00", "\x01", "\x01\x05", "\x01\x05\x00\x00\x00\x00\x00", "x", "\xff", "anna", time, root, sig, row(), row("anna"), row("anna", time, many, root), row(time, many, root, sig), row("anna", time, root, sig), row("anna", time, many, root, sig, ""), row("", "anna", time, many, root, sig), row("anna", time+many, root, sig), row("anna", row(time, many), root, sig), row(row("anna", time, many, root), sig),
		row("anna", time, many, sig, root), row("anna", time, root, many, sig), row("anna", root, many, time, sig), row(time, "anna", many, root, sig), row(sig, time, many, root, "anna"), row("anna", time, many, root, root), row("t\x01\x04anna", time, many, root, sig), row("anna", "a"+time, "a"+many, root, sig),
		whole + "\x00", whole + "x", whole + whole, "\x00" + whole, "\x02\x00\x05" + whole[2:], row(whole), whole[:len(whole)-1], whole[1:],
		row("", time, many, root, sig), row("Anna", time, many, root, sig), row("anna\x00", time, many, root, sig), row("anna", time, many, "", sig), row("anna", time, many, root, ""), row("anna", time, many, root+"\x00", sig), row("anna", time, many, root, sig+"\x00"), row("anna", time, many, text(root), text(sig)),
	} {
		refused(t, b)
	}
	for _, x := range []string{"", "\x00\x00", "\x01\x00", "\x02\x00\x07", "\x01\x07\x00", "\x01\x07x", "\x01", "\x02", "7", "\x09\x01\x00\x00\x00\x00\x00\x00\x00\x00", "\x08\x07"} { // no number, whole
		refused(t, row("anna", x, many, root, sig))
		refused(t, row("anna", time, x, root, sig))
	}
}

// K2: of all numbers of leaves those up to 8 are taken, and no others, however great; of times all are.
func TestNumbersThatAreTaken(t *testing.T) {
	s := fair(files(3)).s
	for n := range uint64(300) {
		b := row("anna", number(7), number(n), s.Root, s.Sig)
		if n > mostLeaves {
			refused(t, b)
			continue
		}
		s.Many = int(n)
		taken(t, b, s)
	}
	s.Many = 3
	for shift := 4; shift < 64; shift++ {
		for n := range uint64(mostLeaves + 1) {
			refused(t, row("anna", number(7), number(1<<shift+n), s.Root, s.Sig))
			refused(t, row("anna", number(7), number(-(1<<shift)+n), s.Root, s.Sig))
			s.Time = 1<<shift + n
			taken(t, row("anna", number(s.Time), number(3), s.Root, s.Sig), s)
			s.Time = -(1 << shift) + n
			taken(t, row("anna", number(s.Time), number(3), s.Root, s.Sig), s)
		}
	}
}

// fits tells what Take ought to do with any bytes: take those that are a stamp's, whole, and else refuse.
func fits(t *testing.T, b string) bool {
	t.Helper()
	s, e := fresh.Take(b)
	if e == api.OK {
		if !oughtRight(s) || oughtPut(s) != b {
			t.Errorf("%s was taken as %s", show(b), show(s))
		}
		return true
	}
	if e != api.ErrForm || s != (fresh.Stamp{}) {
		t.Errorf("%s: %s, %v", show(b), show(s), e)
	}
	return false
}

// K2: bytes that were put, cut at each place, and with each byte changed, left out, or one more put in.
func TestBytesThatWereSpoilt(t *testing.T) {
	took := 0
	for _, g := range []given{{"a\x00", "a", 0, nil}, {anna, "anna", 258, []string{leafOf("notes", 3), leafOf("x", 1)}}} {
		s, e := g.build()
		b, f := fresh.Put(s)
		if e != api.OK || f != api.OK {
			t.Fatal(e, f)
		}
		for at := range len(b) {
			refused(t, b[:at])
			fits(t, b[at+1:])
			fits(t, b[:at]+b[at+1:])
			for n := range 256 {
				one := string([]byte{byte(n)})
				if fits(t, b[:at]+one+b[at+1:]) {
					took++
				}
				fits(t, b[:at]+one+b[at:])
			}
		}
	}
	if took < 2000 { // numbers of atoms, letters of texts, and the like
		t.Error(took)
	}
}

// K2: bytes that tell of more than is there, of more than can be, and great ones.
func TestGreatBytes(t *testing.T) {
	const most = "\x08\xff\xff\xff\xff\xff\xff\xff\xff"
	long := strings.Repeat("a", 1<<20)
	many := wire.PutAll(slices.Repeat([]string{"ha\x00"}, 1<<16))
	s := fair(files(2)).s
	for _, b := range []string{most, most + most, "\x01\x05" + most, long, many, "\x01\x05" + long, strings.Repeat("\x00", 1<<20), strings.Repeat("\x01\x05", 1<<16), strings.Repeat("\x08", 1<<16), row(most), oughtPut(s) + long} {
		refused(t, b)
	}
	for _, x := range []string{"\x08\x7f\xff\xff\xff\xff\xff\xff\xff\xff", most + most, "\x01\x01" + most, long, many, row(long), strings.Repeat("h", 1<<20), words(1 << 16), "ga\x00" + words(1<<16)} {
		refused(t, row(x, number(7), number(2), s.Root, s.Sig))
		refused(t, row("anna", x, number(2), s.Root, s.Sig))
		refused(t, row("anna", number(7), x, s.Root, s.Sig))
		refused(t, row("anna", number(7), number(2), x, s.Sig))
		refused(t, row("anna", number(7), number(2), s.Root, x))
	}
}
