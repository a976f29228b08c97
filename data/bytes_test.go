package data_test

import (
	"slices"
	"strings"
	"testing"

	"letterlock/api"
	"letterlock/data"
	"letterlock/wire"
)

// taken holds Take against the blob whose bytes s is.
func taken(t *testing.T, s string, want data.Blob) {
	t.Helper()
	if b, e := data.Take(s); b != want || e != api.OK {
		t.Errorf("Take(%s): %s, %v; not %s", show(s), show(b), e, show(want))
	}
}

// refused holds Take against none.
func refused(t *testing.T, s string) {
	t.Helper()
	if b, e := data.Take(s); b != (data.Blob{}) || e != api.ErrForm {
		t.Errorf("Take(%s): %s, %v", show(s), show(b), e)
	}
}

// I2: what makes a blob another than a right one, written out.
func TestRight(t *testing.T) {
	const sealed, sig = "sa\x00t\x01\x02hi", "ga\x00a\x00"
	for i, c := range []struct {
		b    data.Blob
		want bool
	}{
		{data.Blob{0, sealed, sig}, true}, {data.Blob{1, sealed, sig}, true}, {data.Blob{7, sealed, sig}, true},
		{data.Blob{8, sealed, sig}, false}, {data.Blob{-1, sealed, sig}, false}, {data.Blob{1 << 32, sealed, sig}, false}, {data.Blob{-1 << 63, sealed, sig}, false},
		{data.Blob{0, "", sig}, false}, {data.Blob{0, sig, sig}, false}, {data.Blob{0, sealed, ""}, false}, {data.Blob{0, sealed, sealed}, false}, {data.Blob{0, sig, sealed}, false},
		{data.Blob{0, "s", sig}, false}, {data.Blob{0, "sa\x00", sig}, false}, {data.Blob{0, sealed + "x", sig}, false}, {data.Blob{0, sealed[1:], sig}, false},
		{data.Blob{0, sealed, "g"}, false}, {data.Blob{0, sealed, "ga\x00"}, false}, {data.Blob{0, sealed, sig + "x"}, false}, {data.Blob{0, sealed, sig[1:]}, false},
		{data.Blob{0, "pa\x00a\x00", sig}, false}, {data.Blob{0, "bua\x00a\x00", sig}, false}, {data.Blob{0, sealed, "pa\x00a\x00"}, false}, {data.Blob{0, sealed, "ua\x00"}, false},
		{data.Blob{0, "s" + deep[1:] + "t\x00", sig}, true}, {data.Blob{0, "s" + deep + "t\x00", sig}, false}, {data.Blob{0, sealed, "g" + deep[1:] + "t\x00"}, true}, {data.Blob{0, sealed, "g" + deep + "t\x00"}, false},
		{data.Blob{0, "sa\x00" + words(3993), sig}, true}, {data.Blob{0, "sa\x00" + words(3994), sig}, false}, {data.Blob{0, sealed, "ga\x00" + words(3993)}, true}, {data.Blob{0, sealed, "ga\x00" + words(3994)}, false},
		{data.Blob{}, false},
	} {
		if data.Right(c.b) != c.want || oughtRight(c.b) != c.want {
			t.Errorf("%d: %s: not %v", i, show(c.b), c.want)
		}
	}
}

// I2: bytes, written out.
func TestPut(t *testing.T) {
	for i, c := range []struct {
		b    data.Blob
		want string
	}{
		{data.Blob{0, "sa\x00a\x00", "ga\x00t\x00"}, "\x01\x03" + "\x01\x01\x00" + "\x01\x05sa\x00a\x00" + "\x01\x05ga\x00t\x00"},
		{data.Blob{7, "sa\x00a\x00", "ga\x01\x01t\x00"}, "\x01\x03" + "\x01\x02\x01\x07" + "\x01\x05sa\x00a\x00" + "\x01\x06ga\x01\x01t\x00"},
		{data.Blob{1, "sa\x00" + words(3993), "ga\x00t\x00"}, "\x01\x03" + "\x01\x02\x01\x01" + "\x02\x0f\xa0sa\x00" + words(3993) + "\x01\x05ga\x00t\x00"},
	} {
		if s, e := data.Put(c.b); s != c.want || e != api.OK {
			t.Errorf("%d: %s, %v", i, show(s), e)
		}
		taken(t, c.want, c.b)
	}
}

// I2: which blobs are right, and the bytes of these; what was put is taken, and no other is.
func TestBytesAsTheyOughtToBe(t *testing.T) {
	right, wrong := 0, 0
	put := map[string]data.Blob{}
	for _, b := range append(rightBlobs(), changed()...) {
		is, s, e := oughtRight(b), "", api.ErrArg
		if is {
			s, e = oughtPut(b), api.OK
			right++
		} else {
			wrong++
		}
		if data.Right(b) != is {
			t.Errorf("Right(%s): not %v", show(b), is)
		}
		if got, f := data.Put(b); got != s || f != e {
			t.Errorf("Put(%s): %s, %v", show(b), show(got), f)
		}
		if !is {
			refused(t, oughtPut(b))
			continue
		}
		taken(t, s, b)
		if other, there := put[s]; there && other != b {
			t.Errorf("%s and %s are put in the same way", show(other), show(b))
		}
		put[s] = b
	}
	if right < 300 || wrong < 300 {
		t.Error(right, wrong)
	}
}

// I2: bytes of another form, written out.
func TestForms(t *testing.T) {
	b, _ := hi(2).ought()
	epoch, sealed, sig := number(2), b.Sealed, b.Sig
	whole := row(epoch, sealed, sig)
	taken(t, whole, b)
	for _, s := range []string{
		"", "\x00", "\x01", "\x01\x03", "\x01\x03\x00\x00\x00", "x", "\xff", epoch, sealed, sig, row(), row(epoch), row(epoch, sealed), row(sealed, sig), row(epoch, sig), row(epoch, sealed, sig, ""), row(epoch, sealed, sig, sig), row("", epoch, sealed, sig),
		row(epoch, sig, sealed), row(sealed, epoch, sig), row(sig, sealed, epoch), row(sealed, sig, epoch), row(epoch, sealed, sealed), row(epoch, sig, sig),
		whole + "\x00", whole + whole, "\x00" + whole, "\x02\x00\x03" + whole[2:], row(whole), whole[:len(whole)-1], whole[1:],
		row("", sealed, sig), row("\x00\x00", sealed, sig), row("\x01\x00", sealed, sig), row("\x02\x00\x02", sealed, sig), row("\x01\x02\x00", sealed, sig), row("\x01", sealed, sig), row("\x02", sealed, sig), row("2", sealed, sig), row("a\x01\x02", sealed, sig),
		row(epoch, "", sig), row(epoch, sealed, ""), row(epoch, sealed+"\x00", sig), row(epoch, sealed, sig+"\x00"), row(epoch, sealed[1:], sig), row(epoch, sealed, sig[1:]), row(epoch, text(sealed), sig), row(epoch, sealed, text(sig)),
	} {
		refused(t, s)
	}
}

// I2: of all epochs those from 0 to 7 are taken, and no others, however great.
func TestEpochsThatAreTaken(t *testing.T) {
	b, _ := hi(2).ought()
	for n := range uint64(300) {
		s := row(number(n), b.Sealed, b.Sig)
		if n > lastEpoch {
			refused(t, s)
			continue
		}
		b.Epoch = int(n)
		taken(t, s, b)
	}
	for shift := 3; shift < 64; shift++ {
		for n := range uint64(lastEpoch + 1) {
			refused(t, row(number(1<<shift+n), b.Sealed, b.Sig))
			refused(t, row(number(-(1<<shift)+n), b.Sealed, b.Sig))
		}
	}
}

// fits tells what Take ought to do with any bytes: take those that are a blob's, whole, and else refuse.
func fits(t *testing.T, s string) bool {
	t.Helper()
	b, e := data.Take(s)
	if e == api.OK {
		if !oughtRight(b) || oughtPut(b) != s {
			t.Errorf("%s was taken as %s", show(s), show(b))
		}
		return true
	}
	if e != api.ErrForm || b != (data.Blob{}) {
		t.Errorf("%s: %s, %v", show(s), show(b), e)
	}
	return false
}

// I2: bytes that were put, cut at each place, and with each byte changed, left out, or one more put in.
func TestBytesThatWereSpoilt(t *testing.T) {
	took := 0
	for _, g := range []given{{"a\x01\x09", 0, "a\x01\x07", "a/b", ""}, {"hhha\x00", 4, "t\x01\x02me", "anna/notes", "hi"}} {
		b, e := g.build()
		s, f := data.Put(b)
		if e != api.OK || f != api.OK {
			t.Fatal(e, f)
		}
		for at := range len(s) {
			refused(t, s[:at])
			fits(t, s[at+1:])
			fits(t, s[:at]+s[at+1:])
			for b := range 256 {
				one := string([]byte{byte(b)})
				if fits(t, s[:at]+one+s[at+1:]) {
					took++
				}
				fits(t, s[:at]+one+s[at:])
			}
		}
	}
	if took < 2000 { // numbers of atoms, letters of texts, and the like
		t.Error(took)
	}
}

// I2: bytes that tell of more than is there, of more than can be, and great ones.
func TestGreatBytes(t *testing.T) {
	const most = "\x08\xff\xff\xff\xff\xff\xff\xff\xff"
	long := strings.Repeat("a", 1<<20)
	many := wire.PutAll(slices.Repeat([]string{"sa\x00a\x00"}, 1<<16))
	b, _ := hi(2).ought()
	for _, s := range []string{most, most + most, "\x01\x03" + most, long, many, "\x01\x03" + long, strings.Repeat("\x00", 1<<20), strings.Repeat("\x01\x03", 1<<16), strings.Repeat("\x08", 1<<16), row(most), oughtPut(b) + long} {
		refused(t, s)
	}
	for _, x := range []string{most, "\x08\x7f\xff\xff\xff\xff\xff\xff\xff", "\x08\x80\x00\x00\x00\x00\x00\x00\x02", "\x01\x01" + most, long, many, row(long), strings.Repeat("s", 1<<20), "sa\x00" + words(1<<16), "ga\x00" + words(1<<16)} {
		refused(t, row(x, b.Sealed, b.Sig))
		refused(t, row(number(2), x, b.Sig))
		refused(t, row(number(2), b.Sealed, x))
	}
}
