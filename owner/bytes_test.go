package owner_test

import (
	"slices"
	"strings"
	"testing"

	"letterlock/api"
	"letterlock/fresh"
	"letterlock/meta"
	"letterlock/owner"
)

// taken holds Take against the envelope whose bytes s is.
func taken(t *testing.T, s string, want owner.Envelope) {
	t.Helper()
	if x, e := owner.Take(s); !same(x, want) || e != api.OK {
		t.Errorf("Take(%s): %s, %v; not %s", show(s), show(x), e, show(want))
	}
}

// refused holds Take against none.
func refused(t *testing.T, s string) {
	t.Helper()
	if x, e := owner.Take(s); !same(x, owner.Envelope{}) || e != api.ErrForm {
		t.Errorf("Take(%s): %s, %v", show(s), show(x), e)
	}
}

// fits tells what Take ought to do with any bytes: take those that are an envelope's, whole, and else refuse.
func fits(t *testing.T, s string) bool {
	t.Helper()
	x, e := owner.Take(s)
	if e == api.OK {
		if !oughtRight(x) || oughtPut(x) != s {
			t.Errorf("%s was taken as %s", show(s), show(x))
		}
		return true
	}
	if e != api.ErrForm || !same(x, owner.Envelope{}) {
		t.Errorf("%s: %s, %v", show(s), show(x), e)
	}
	return false
}

// O2: what makes an envelope another than a right one, written out.
func TestRight(t *testing.T) {
	for i, c := range []struct {
		change func(x *owner.Envelope)
		want   bool
	}{
		{func(x *owner.Envelope) {}, true},
		{func(x *owner.Envelope) { x.At = 1 }, true}, {func(x *owner.Envelope) { x.At = 7 }, true}, {func(x *owner.Envelope) { x.At = 8 }, false}, {func(x *owner.Envelope) { x.At = -1 }, false},
		{func(x *owner.Envelope) { x.At = 1 << 32 }, false}, {func(x *owner.Envelope) { x.At = 1<<63 - 1 }, false}, {func(x *owner.Envelope) { x.At = -1 << 63 }, false},
		{func(x *owner.Envelope) { x.Proof = []string{} }, true}, {func(x *owner.Envelope) { x.Proof = []string{"a\x00"} }, true}, {func(x *owner.Envelope) { x.Proof = []string{"a\x00", "t\x00", "ha\x00"} }, true},
		{func(x *owner.Envelope) { x.Proof = []string{"a\x00", "t\x00", "ha\x00", "a\x00"} }, false}, {func(x *owner.Envelope) { x.Proof = slices.Repeat([]string{"a\x00"}, 1000) }, false},
		{func(x *owner.Envelope) { x.Proof = []string{""} }, false}, {func(x *owner.Envelope) { x.Proof = []string{"a\x00", ""} }, false}, {func(x *owner.Envelope) { x.Proof = []string{"", "a\x00", "a\x00"} }, false}, {func(x *owner.Envelope) { x.Proof = []string{"a\x00", "x", "a\x00"} }, false}, {func(x *owner.Envelope) { x.Proof = []string{"a\x00", "a\x00", "a\x00x"} }, false},
		{func(x *owner.Envelope) { x.Proof = []string{deep} }, true}, {func(x *owner.Envelope) { x.Proof = []string{"h" + deep} }, false}, {func(x *owner.Envelope) { x.Proof = []string{words(3996)} }, true}, {func(x *owner.Envelope) { x.Proof = []string{words(3997)} }, false},
		{func(x *owner.Envelope) { x.Meta.Sig = "" }, false}, {func(x *owner.Envelope) { x.Meta.Verify = nil }, false}, {func(x *owner.Envelope) { x.Meta.Rights.File = "A" }, false}, {func(x *owner.Envelope) { x.Meta = meta.Meta{} }, false},
		{func(x *owner.Envelope) { x.Stamp.Sig = "" }, false}, {func(x *owner.Envelope) { x.Stamp.Owner = "" }, false}, {func(x *owner.Envelope) { x.Stamp.Many = 9 }, false}, {func(x *owner.Envelope) { x.Stamp.Root = "x" }, false}, {func(x *owner.Envelope) { x.Stamp = fresh.Stamp{} }, false},
		{func(x *owner.Envelope) { x.Stamp.Many, x.At = 0, 7 }, true}, // at a place that the stamp has not
		{func(x *owner.Envelope) { *x = owner.Envelope{} }, false},
	} {
		x := least()
		c.change(&x)
		if owner.Right(x) != c.want || oughtRight(x) != c.want {
			t.Errorf("%d: %s: not %v", i, show(x), c.want)
		}
	}
}

// O2: bytes, written out.
func TestPut(t *testing.T) {
	const (
		rights = "\x01\x05" + "\x01\x04anna" + "\x01\x01a" + "\x01\x01\x00" + "\x01\x01\x00" + "\x01\x01\x00"
		body   = "\x01\x04" + "\x01\x14" + rights + "\x01\x02\x01\x01" + "\x01\x07" + "\x01\x01" + "\x01\x03ua\x00" + "\x01\x01\x00"
		m      = "\x01\x02" + "\x01\x28" + body + "\x01\x05ga\x00t\x00"
		stamp  = "\x01\x05" + "\x01\x03ben" + "\x01\x02\x01\x07" + "\x01\x02\x01\x02" + "\x01\x02t\x00" + "\x01\x06ga\x01\x01t\x00"
	)
	both := number(uint64(len(m))) + m + number(uint64(len(stamp))) + stamp
	for i, c := range []struct {
		at    int
		proof []string
		want  string
	}{
		{0, nil, "\x01\x04" + both + "\x01\x01\x00" + "\x01\x01\x00"},
		{7, nil, "\x01\x04" + both + "\x01\x02\x01\x07" + "\x01\x01\x00"},
		{1, []string{"ha\x00"}, "\x01\x04" + both + "\x01\x02\x01\x01" + "\x01\x07" + "\x01\x01" + "\x01\x03ha\x00"},
		{2, []string{"a\x00", "t\x00", "ha\x00"}, "\x01\x04" + both + "\x01\x02\x01\x02" + "\x01\x0f" + "\x01\x03" + "\x01\x02a\x00" + "\x01\x02t\x00" + "\x01\x03ha\x00"},
	} {
		x := least()
		x.At, x.Proof = c.at, c.proof
		if s, e := owner.Put(x); s != c.want || e != api.OK {
			t.Errorf("%d: %q, %v, not %q", i, s, e, c.want)
		}
		taken(t, c.want, x)
	}
}

// O2: which envelopes are right, and the bytes of these; what was put is taken, and no other is.
func TestBytesAsTheyOughtToBe(t *testing.T) {
	right, wrong := 0, 0
	put := map[string]owner.Envelope{}
	for _, x := range envelopes(t) {
		is, s, e := oughtRight(x), "", api.ErrArg
		if is {
			s, e = oughtPut(x), api.OK
			right++
		} else {
			wrong++
		}
		if owner.Right(x) != is {
			t.Errorf("Right(%s): not %v", show(x), is)
		}
		if got, f := owner.Put(x); got != s || f != e {
			t.Errorf("Put(%s): %s, %v", show(x), show(got), f)
		}
		if !is {
			refused(t, oughtPut(x))
			continue
		}
		taken(t, s, x)
		if other, there := put[s]; there && !same(other, x) {
			t.Errorf("%s and %s are put in the same way", show(other), show(x))
		}
		put[s] = x
	}
	if right < 800 || wrong < 800 {
		t.Error(right, wrong)
	}
}

// O2: bytes of another form, written out.
func TestForms(t *testing.T) {
	x := least()
	x.At, x.Proof = 1, []string{"ha\x00", "t\x00"}
	m, _ := meta.Put(x.Meta)
	s, _ := fresh.Put(x.Stamp)
	at, proof := number(1), row(x.Proof...)
	whole := row(m, s, at, proof)
	taken(t, whole, x)
	for _, b := range []string{
		"", "\x00", "\x01", "\x01\x04", "\x01\x04\x00\x00\x00\x00", "x", "\xff", m, s, at, proof, row(), row(m), row(m, s), row(m, s, at), row(s, at, proof), row(m, at, proof), row(m, s, proof), row(m, s, at, proof, ""), row(m, s, at, proof, proof), row("", m, s, at, proof), row(m, s, at+proof), row(row(m, s), at, proof), row(m, s, row(at, proof)),
		row(s, m, at, proof), row(m, m, at, proof), row(s, s, at, proof), row(m, s, proof, at), row(m, at, s, proof), row(proof, at, s, m), row(m, s, at, x.Proof[0]), row(m, s, at, x.Proof[0], x.Proof[1]), row(m, s, at, x.Proof[0]+x.Proof[1]),
		whole + "\x00", whole + "x", whole + whole, "\x00" + whole, "\x02\x00\x04" + whole[2:], row(whole), whole[:len(whole)-1], whole[1:],
		row("", s, at, proof), row(m, "", at, proof), row(m, s, "", proof), row(m, s, at, ""), row(m+"\x00", s, at, proof), row(m, s+"\x00", at, proof), row(m, s, at+"\x00", proof), row(m, s, at, proof+"\x00"), row(m[1:], s, at, proof), row(m, s[1:], at, proof), row(m, s, at[1:], proof), row(m, s, at, proof[1:]), row(m[:len(m)-1], s, at, proof), row(m, s[:len(s)-1], at, proof), row(m, s, at, proof[:len(proof)-1]),
		row(text(m), text(s), at, proof), row(m, s, "a"+at, proof), row(m, s, at, row(proof)), row(m, s, at, text("")), row(m, s, at, row("")), row(m, s, at, row("", "", "")), row(m, s, at, row("x")), row(m, s, at, row("ha\x00", "ha\x00x")), row(m, s, at, row("a\x00", "a\x00", "a\x00", "a\x00")), row(m, s, at, row("a\x00", "a\x00", "a\x00", "")), row(m, s, at, row("h"+deep)), row(m, s, at, row(words(3997))),
	} {
		refused(t, b)
	}
	for _, n := range []string{"", "\x00\x00", "\x01\x00", "\x02\x00\x07", "\x01\x07\x00", "\x01\x07x", "\x01", "\x02", "7", "\x09\x01\x00\x00\x00\x00\x00\x00\x00\x00", "\x08\x07"} { // no number, whole
		refused(t, row(m, s, n, proof))
	}
}

// O2: of all numbers those up to 7 are taken, and no others, however great; of rows of right terms those up to 3.
func TestNumbersThatAreTaken(t *testing.T) {
	x := least()
	m, _ := meta.Put(x.Meta)
	s, _ := fresh.Put(x.Stamp)
	for n := range uint64(300) {
		b := row(m, s, number(n), row())
		if n > 7 {
			refused(t, b)
			continue
		}
		x.At = int(n)
		taken(t, b, x)
	}
	for shift := 3; shift < 64; shift++ {
		for n := range uint64(8) {
			refused(t, row(m, s, number(1<<shift+n), row()))
			refused(t, row(m, s, number(-(1<<shift)+n), row()))
		}
	}
	x.At = 0
	for _, one := range rightTerms {
		for many := range 10 {
			x.Proof = slices.Repeat([]string{one}, many)
			b := row(m, s, number(0), row(x.Proof...))
			if many > 3 {
				refused(t, b)
				continue
			}
			taken(t, b, x)
		}
	}
}

// O2: bytes that were put, cut at each place, and with each byte changed, left out, or one more put in.
func TestBytesThatWereSpoilt(t *testing.T) {
	took, x := 0, least()
	x.At, x.Proof = 6, []string{"a\x00", "t\x01\x02hi", "ha\x00"}
	b, e := owner.Put(x)
	must(t, e)
	for at := range len(b) {
		refused(t, b[:at])
		fits(t, b[at+1:])
		fits(t, b[:at]+b[at+1:])
		for n := range 256 {
			one := string([]byte{byte(n)})
			if fits(t, b[:at]+one+b[at+1:]) {
				took++
			}
			fits(t, b[:at]+one+b[at:])
		}
	}
	if took < 1000 { // numbers of atoms, letters of texts, and the like
		t.Error(took)
	}
}

// O2: bytes of planned envelopes, each with some changes by dice.
func TestBytesThatWereSpoiltByDice(t *testing.T) {
	d, l := &dice{4}, plans(t)
	for range 20000 {
		b := []byte(oughtPut(l[d.roll(len(l))]))
		for range 1 + d.roll(3) {
			b[d.roll(len(b))] = byte(d.roll(256))
		}
		fits(t, string(b))
	}
}

// O2: bytes that tell of more than is there, of more than can be, and great ones.
func TestGreatBytes(t *testing.T) {
	const most = "\x08\xff\xff\xff\xff\xff\xff\xff\xff"
	long, x := strings.Repeat("a", 1<<20), least()
	m, _ := meta.Put(x.Meta)
	s, _ := fresh.Put(x.Stamp)
	many := row(slices.Repeat([]string{"ha\x00"}, 1<<16)...)
	for _, b := range []string{
		most, most + most, "\x01\x04" + most, long, many, "\x01\x04" + long, strings.Repeat("\x00", 1<<20), strings.Repeat("\x01\x04", 1<<16), strings.Repeat("\x08", 1<<16), row(most), oughtPut(x) + long,
		row(long, s, number(0), row()), row(m, long, number(0), row()), row(m, s, long, row()), row(m, s, number(0), long), row(m, s, number(0), many), row(m, s, number(0), most), row(m, s, number(0), row(long)), row(m, s, number(0), row(strings.Repeat("h", 1<<20))), row(m, s, number(0), "\x01\x03"+most),
	} {
		refused(t, b)
	}
	x.Proof = []string{words(3996), words(3996), words(3996)}
	taken(t, oughtPut(x), x)
}
