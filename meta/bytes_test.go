package meta_test

import (
	"slices"
	"strings"
	"testing"

	"letterlock/api"
	"letterlock/meta"
	"letterlock/wire"
)

// taken holds Take against the meta whose bytes s is.
func taken(t *testing.T, s string, want meta.Meta) {
	t.Helper()
	if m, e := meta.Take(s); !same(m, want) || e != api.OK {
		t.Errorf("Take(%s): %s, %v; not %s", show(s), show(m), e, show(want))
	}
}

// refused holds Take against none.
func refused(t *testing.T, s string) {
	t.Helper()
	if m, e := meta.Take(s); !same(m, meta.Meta{}) || e != api.ErrForm {
		t.Errorf("Take(%s): %s, %v", show(s), show(m), e)
	}
}

// H2: which metas are right, and the bytes of these; what was put is taken, and no other is.
func TestBytesAsTheyOughtToBe(t *testing.T) {
	right, wrong := 0, 0
	put := map[string]meta.Meta{}
	for _, m := range append(rightMetas(), changed()...) {
		is, body, s, e := oughtRight(m), "", "", api.ErrArg
		if is {
			body, s, e = oughtBody(m), oughtPut(m), api.OK
			right++
		} else {
			wrong++
		}
		if meta.Right(m) != is {
			t.Errorf("Right(%s): not %v", show(m), is)
		}
		if got, f := meta.Body(m); got != body || f != e {
			t.Errorf("Body(%s): %s, %v", show(m), show(got), f)
		}
		if got, f := meta.Put(m); got != s || f != e {
			t.Errorf("Put(%s): %s, %v", show(m), show(got), f)
		}
		if !is {
			refused(t, oughtPut(m))
			continue
		}
		taken(t, s, m)
		if other, there := put[s]; there && !same(other, m) {
			t.Errorf("%s and %s are put in the same way", show(m), show(other))
		}
		put[s] = m
	}
	for _, m := range rightMetas() {
		if !meta.Right(m) {
			t.Errorf("%s is not right", show(m))
		}
	}
	if right < 1000 || wrong < 1000 {
		t.Error(right, wrong)
	}
}

// H2: what makes a meta another than a right one, written out.
func TestRight(t *testing.T) {
	m, e := of(notes(1, []string{"ben"}, []string{"cy"})).build()
	if e != api.OK || !meta.Right(m) {
		t.Fatal(show(m), e)
	}
	for i, c := range []struct {
		change func(x *meta.Meta)
		want   bool
	}{
		{func(x *meta.Meta) { x.Version = 0 }, true},
		{func(x *meta.Meta) { x.Rights.Owner = "dora" }, true},
		{func(x *meta.Meta) { x.Rights.Owner = "cy" }, false},
		{func(x *meta.Meta) { x.Rights.Epoch = 0 }, false},
		{func(x *meta.Meta) { x.Rights.Epoch = 2 }, false},
		{func(x *meta.Meta) { x.Rights.Epoch, x.Verify = -1, nil }, false},
		{func(x *meta.Meta) { x.Rights.Epoch, x.Verify = 7, slices.Repeat([]string{"ua\x00"}, 8) }, true},
		{func(x *meta.Meta) { x.Rights.Epoch, x.Verify = 8, slices.Repeat([]string{"ua\x00"}, 9) }, false},
		{func(x *meta.Meta) { x.Rights.Readers, x.Rights.Writers = x.Rights.Writers, x.Rights.Readers }, true},
		{func(x *meta.Meta) { x.Rights.Readers, x.Rights.Writers = []string{"ben", "cy"}, nil }, true},
		{func(x *meta.Meta) { x.Rights.Readers = nil }, false},
		{func(x *meta.Meta) { x.Rights.Readers = []string{"ben", "z"} }, false},
		{func(x *meta.Meta) { x.Rights.Readers, x.Blocks = nil, x.Blocks[1:] }, true},
		{func(x *meta.Meta) { x.Rights.Readers, x.Rights.Writers, x.Blocks = nil, nil, nil }, true},
		{func(x *meta.Meta) { x.Blocks = nil }, false},
		{func(x *meta.Meta) { x.Blocks = append(x.Blocks, meta.Block{User: "z", Box: x.Blocks[0].Box}) }, false},
		{func(x *meta.Meta) { x.Blocks[0], x.Blocks[1] = x.Blocks[1], x.Blocks[0] }, false},
		{func(x *meta.Meta) { x.Blocks[1].User = "ben" }, false},
		{func(x *meta.Meta) { x.Blocks[0].Box, x.Blocks[1].Box = x.Blocks[1].Box, x.Blocks[0].Box }, true},
		{func(x *meta.Meta) { x.Blocks[1].Box = "bua\x00a\x00" }, true},
		{func(x *meta.Meta) { x.Blocks[1].Box = "bua\x00a\x00x" }, false},
		{func(x *meta.Meta) { x.Blocks[1].Box = "sua\x00a\x00" }, false},
		{func(x *meta.Meta) { x.Verify[0], x.Verify[1] = x.Verify[1], x.Verify[0] }, true},
		{func(x *meta.Meta) { x.Verify = x.Verify[:1] }, false},
		{func(x *meta.Meta) { x.Verify = append(x.Verify, "ua\x00") }, false},
		{func(x *meta.Meta) { x.Verify[1] = "ha\x00" }, false},
		{func(x *meta.Meta) { x.Verify[0] = "" }, false},
		{func(x *meta.Meta) { x.Sig = "ga\x00a\x00" }, true},
		{func(x *meta.Meta) { x.Sig = "pa\x00a\x00" }, false},
		{func(x *meta.Meta) { x.Sig = "" }, false},
	} {
		x := apart(m)
		c.change(&x)
		if meta.Right(x) != c.want || oughtRight(x) != c.want {
			t.Errorf("%d: %s: not %v", i, show(x), c.want)
		}
	}
	if meta.Right(meta.Meta{}) {
		t.Error("none is right")
	}
}

// piece is bytes of a part of a meta, and how it stands in the meta then; nil, if they are of no such part.
type piece struct {
	s   string
	set func(m *meta.Meta)
}

// broken are bytes that were put, spoilt so that they are of no part.
func broken(s string) []piece {
	return []piece{{s + "\x00", nil}, {s[1:], nil}, {s[:len(s)-1], nil}, {"", nil}, {"\x02\x00" + s[1:], nil}}
}

// pieces are, of each part of that meta, bytes of it, of others like it, and of none.
func pieces(m meta.Meta) [5][]piece {
	var l [5][]piece
	add := func(at int, s string, set func(m *meta.Meta)) { l[at] = append(l[at], piece{s, set}) }
	rs := []api.Rights{m.Rights, notes(1, nil, nil), notes(2, m.Rights.Readers, m.Rights.Writers), notes(1, m.Rights.Writers, nil), notes(8, nil, nil)}
	for _, r := range rs {
		add(0, ofRights(r), func(m *meta.Meta) { m.Rights = r })
	}
	for _, n := range []uint64{5, 256} {
		add(1, number(n), func(m *meta.Meta) { m.Version = n })
	}
	u, v := m.Verify[0], m.Verify[1]
	for _, verify := range [][]string{{u, v}, {}, {u}, {v, u, v}, {u, ""}, {"ha\x00", v}} {
		add(2, row(verify...), func(m *meta.Meta) { m.Verify = verify })
	}
	b, c := m.Blocks[0], m.Blocks[1]
	for _, blocks := range [][]meta.Block{{b, c}, {}, {b}, {c}, {c, b}, {b, c, c}, {b, {User: "cy", Box: u}}, {b, {User: "ben", Box: c.Box}}} {
		rows := []string{}
		for _, b := range blocks {
			rows = append(rows, row(b.User, b.Box))
		}
		add(3, row(rows...), func(m *meta.Meta) { m.Blocks = blocks })
	}
	whole := row(b.User, b.Box)
	for _, x := range append(broken(row(c.User, c.Box)), piece{row("cy"), nil}, piece{row(), nil}, piece{row("cy", c.Box, ""), nil}) {
		add(3, row(whole, x.s), nil)
	}
	for _, sig := range []string{m.Sig, "ga\x00t\x00", "ua\x00", "", m.Sig + "\x00"} {
		add(4, sig, func(m *meta.Meta) { m.Sig = sig })
	}
	for at := range 4 {
		l[at] = append(l[at], broken(l[at][0].s)...)
	}
	return l
}

// H2: bytes of rows, each piece of them as it must be or not: taken just if all are, and what they tell is right.
func TestRowsOfPieces(t *testing.T) {
	m, _ := of(notes(1, []string{"ben"}, []string{"cy"})).ought()
	l, many := pieces(m), 0
	for _, who := range l[0] {
		for _, version := range l[1] {
			for _, verify := range l[2] {
				for _, blocks := range l[3] {
					for _, sig := range l[4] {
						s := row(row(who.s, version.s, verify.s, blocks.s), sig.s)
						x, fine := meta.Meta{}, true
						for _, p := range []piece{who, version, verify, blocks, sig} {
							if p.set == nil {
								fine = false
								break
							}
							p.set(&x)
						}
						if fine && oughtRight(x) {
							taken(t, s, x)
							many++
						} else {
							refused(t, s)
						}
					}
				}
			}
		}
	}
	if many != 16 { // each of four rights, with a row of terms and one of blocks that fit, two versions, two signatures
		t.Error(many)
	}
}

// H2: bytes of another form, written out.
func TestForms(t *testing.T) {
	m, _ := of(notes(0, nil, nil)).ought()
	body := row(ofRights(m.Rights), number(m.Version), row(m.Verify...), "\x00")
	taken(t, row(body, m.Sig), m)
	for _, s := range []string{
		"", "\x00", "\x01", "\x01\x02", "\x01\x02\x00", "\x01\x02\x00\x00", "x", "\xff", row(), row(body), row(m.Sig), row(m.Sig, body), row(body, m.Sig, ""), row(body, m.Sig, m.Sig), body, m.Sig,
		row(body, m.Sig) + "\x00", row(body, m.Sig) + row(body, m.Sig), "\x00" + row(body, m.Sig), "\x02\x00\x02" + row(body, m.Sig)[2:], row(row(body, m.Sig)),
		row(body+"\x00", m.Sig), row("\x02\x00\x04"+body[2:], m.Sig), row(row(), m.Sig), row(row(ofRights(m.Rights)), m.Sig), row(row(ofRights(m.Rights), number(5)), m.Sig),
		row(row(ofRights(m.Rights), number(5), row(m.Verify...)), m.Sig), row(row(ofRights(m.Rights), number(5), row(m.Verify...), "\x00", ""), m.Sig), row(row(number(5), ofRights(m.Rights), row(m.Verify...), "\x00"), m.Sig),
		row(row(ofRights(m.Rights), number(5), "\x00", row(m.Verify...)), m.Sig), row(row(ofRights(m.Rights), "", row(m.Verify...), "\x00"), m.Sig),
	} {
		refused(t, s)
	}
}

// fits tells what Take ought to do with any bytes: take those that are a meta's, whole, and else refuse.
func fits(t *testing.T, s string) bool {
	t.Helper()
	m, e := meta.Take(s)
	if e == api.OK {
		if !oughtRight(m) || oughtPut(m) != s {
			t.Errorf("%s was taken as %s", show(s), show(m))
		}
		return true
	}
	if e != api.ErrForm || !same(m, meta.Meta{}) {
		t.Errorf("%s: %s, %v", show(s), show(m), e)
	}
	return false
}

// H2: bytes that were put, cut at each place, and with each byte changed, left out, or one more put in.
func TestBytesThatWereSpoilt(t *testing.T) {
	took := 0
	for _, r := range []api.Rights{{Owner: "a", File: "b"}, {Owner: "a", File: "b", Epoch: 1, Readers: []string{"ben"}, Writers: []string{"cy"}}} {
		g := of(r)
		g.signers = []string{"a\x01\x07", "a\x01\x08"}[:r.Epoch+1]
		m, e := g.build()
		s, f := meta.Put(m)
		if e != api.OK || f != api.OK {
			t.Fatal(e, f)
		}
		for at := range len(s) {
			refused(t, s[:at])
			fits(t, s[at+1:])
			fits(t, s[:at]+s[at+1:])
			for b := range 256 {
				one := string([]byte{byte(b)})
				if fits(t, s[:at]+one+s[at+1:]) {
					took++
				}
				fits(t, s[:at]+one+s[at:])
			}
		}
	}
	if took < 2000 { // numbers of atoms, letters of names, and the like
		t.Error(took)
	}
}

// H2: bytes that tell of more than is there, of more than can be, and great ones.
func TestGreatBytes(t *testing.T) {
	const most = "\x08\xff\xff\xff\xff\xff\xff\xff\xff"
	long := strings.Repeat("a", 1<<20)
	many := wire.PutAll(slices.Repeat([]string{"ua\x00"}, 1<<16))
	r := notes(0, []string{"ben"}, nil)
	m, _ := of(r).ought()
	whole := func(who, version, verify, blocks, sig string) string {
		return row(row(who, version, verify, blocks), sig)
	}
	who, version, verify, blocks, sig := ofRights(r), number(5), row(m.Verify...), row(row("ben", m.Blocks[0].Box)), m.Sig
	taken(t, whole(who, version, verify, blocks, sig), m)
	for _, s := range []string{
		most, most + most, "\x01\x02" + most, row(most, sig), row("\x01\x04"+most, sig), long, many, strings.Repeat("\x00", 1<<20), strings.Repeat("\x01\x02", 1<<16), strings.Repeat("\x08", 1<<16),
	} {
		refused(t, s)
	}
	for _, x := range []string{most, "\x08\x7f\xff\xff\xff\xff\xff\xff\xff", "\x01\x01" + most, long, many, row(long), row(row("ben", long)), row(row(long, m.Blocks[0].Box)), row("u" + words(1<<16)), row(row("ben", "bua\x00"+words(1<<16))), "ga\x00" + words(1<<16)} {
		if n, behind, e := wire.Take(x); e == api.OK && behind == "" { // great, but a version
			m.Version = n
			taken(t, whole(who, x, verify, blocks, sig), m)
		} else {
			refused(t, whole(who, x, verify, blocks, sig))
		}
		refused(t, whole(x, version, verify, blocks, sig))
		refused(t, whole(who, version, x, blocks, sig))
		refused(t, whole(who, version, verify, x, sig))
		refused(t, whole(who, version, verify, blocks, x))
	}
}
