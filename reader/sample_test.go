package reader_test

import (
	"fmt"
	"slices"
	"strings"
	"testing"

	"letterlock/api"
	"letterlock/fresh"
	"letterlock/meta"
	"letterlock/owner"
	"letterlock/reader"
	"letterlock/user"
)

func newUser(t *testing.T, name string, seed uint64) *user.User {
	t.Helper()
	u, e := user.New(name, seed)
	if u == nil || e != api.OK {
		t.Fatalf("New(%.80q, %d): %v", name, seed, e)
	}
	return u
}

// must does what may not err.
func must(t *testing.T, l ...api.Errno) {
	t.Helper()
	for _, e := range l {
		if e != api.OK {
			t.Fatal(e)
		}
	}
}

// secretOf is the secret of somebody of that name, publicOf the public term.
func secretOf(name string) string {
	u, _ := user.New(name, 5)
	return u.Secret()
}

func publicOf(name string) string { return "u" + secretOf(name) }

// everybody is whom all know, each by the public term, not in order.
func everybody() []meta.Known {
	var l []meta.Known
	for _, n := range names() {
		l = append(l, meta.Known{Name: n, Public: publicOf(n)})
	}
	return l
}

// owns is a user that owns as many files, of which each has other rights, another version and another epoch.
func owns(t *testing.T, name string, many int) *user.User {
	t.Helper()
	u := newUser(t, name, 5)
	for i, file := range eight()[:many] {
		must(t, u.Create(file))
		for j, who := range []string{"ben", "cy", "dora"}[:i%4] {
			must(t, u.Grant(file, who, (i+j)%2 == 0))
		}
		for range i {
			must(t, u.Grant(file, "z", true), u.Revoke(file, "z"))
		}
	}
	return u
}

// step does one thing with a user, or tries to, with one of some names, some of which are none.
func step(u *user.User, d *dice) api.Errno {
	texts := append(names()[:11:11], "", "Anna", longest)
	file, who := texts[d.roll(len(texts))], texts[d.roll(len(texts))]
	do := "cccggggkkm"[d.roll(10)]
	if held := u.Files(); do != 'c' && d.roll(3) > 0 && len(held) > 0 { // most of the time something that there is
		file = held[d.roll(len(held))]
	}
	switch do {
	case 'c':
		return u.Create(file)
	case 'g':
		return u.Grant(file, who, d.roll(2) == 0)
	case 'k':
		return u.Revoke(file, who)
	}
	return u.Remove(file)
}

// blobs are what a user puts of its files, in order, at a time.
func blobs(t *testing.T, u *user.User, time uint64) []string {
	t.Helper()
	ops, e := owner.Plan(u, "", time, everybody())
	must(t, e)
	var l []string
	for _, o := range ops {
		l = append(l, o.Blob)
	}
	return l
}

// taken is the envelope of a right one's bytes.
func taken(t *testing.T, blob string) owner.Envelope {
	t.Helper()
	x, e := owner.Take(blob)
	must(t, e)
	return x
}

// held is what a user holds of a file of its own.
func held(t *testing.T, u *user.User, file string) user.Owned {
	t.Helper()
	o, e := u.Own(file)
	must(t, e)
	return o
}

// fair is an answer, as it is asked for by who was told the truth, at the time that it was put.
func fair(t *testing.T, blob string) asked {
	t.Helper()
	x := taken(t, blob)
	return asked{blob, publicOf(x.Stamp.Owner), x.Stamp.Owner, x.Meta.Rights.File, x.Stamp.Time, 0}
}

// putAs is the bytes of an envelope whose stamp and meta are signed with these secrets, or as they were, if one is empty; nothing, if it is not right then.
func putAs(x owner.Envelope, stamps, says string) string {
	if stamps != "" {
		x.Stamp.Sig = "g" + stamps + signedOf(x.Stamp)
	}
	if says != "" {
		x.Meta.Sig = "g" + says + text(bodyOf(x.Meta))
	}
	s, _ := owner.Put(x)
	return s
}

// changes are of each part of an envelope, at each of its places.
func changes() []func(x *owner.Envelope) {
	var l []func(x *owner.Envelope)
	change := func(f func(x *owner.Envelope)) { l = append(l, f) }
	change(func(x *owner.Envelope) {})
	for _, n := range numbers {
		change(func(x *owner.Envelope) { x.At = n })
		change(func(x *owner.Envelope) { x.Stamp.Many = n })
		change(func(x *owner.Envelope) { x.Stamp.Time = uint64(n) })
		change(func(x *owner.Envelope) { x.Stamp.Time += uint64(n) })
		change(func(x *owner.Envelope) { x.Meta.Version = uint64(n) })
		change(func(x *owner.Envelope) { x.Meta.Version += uint64(n) })
	}
	for _, t := range append(slices.Clone(rightTerms), "x") {
		change(func(x *owner.Envelope) { x.Proof = append(x.Proof, t) })
		change(func(x *owner.Envelope) { x.Proof = append([]string{t}, x.Proof...) })
		for at := range 3 {
			change(func(x *owner.Envelope) {
				if at < len(x.Proof) {
					x.Proof[at] = t
				}
			})
		}
		change(func(x *owner.Envelope) { x.Stamp.Root = t })
		change(func(x *owner.Envelope) { x.Stamp.Sig = t })
		change(func(x *owner.Envelope) { x.Meta.Sig = t })
		change(func(x *owner.Envelope) { x.Meta.Verify[0] = t })
		change(func(x *owner.Envelope) {
			for i := range x.Meta.Blocks {
				x.Meta.Blocks[i].Box = t
			}
		})
	}
	for _, n := range append(names(), "", "Anna") {
		change(func(x *owner.Envelope) { x.Stamp.Owner = n })
		change(func(x *owner.Envelope) { x.Meta.Rights.Owner = n })
		change(func(x *owner.Envelope) { x.Meta.Rights.File = n })
		change(func(x *owner.Envelope) { x.Stamp.Owner, x.Meta.Rights.Owner = n, n })
	}
	change(func(x *owner.Envelope) { x.Proof = nil })
	change(func(x *owner.Envelope) { slices.Reverse(x.Proof) })
	change(func(x *owner.Envelope) {
		if len(x.Proof) > 0 {
			x.Proof = x.Proof[:len(x.Proof)-1]
		}
	})
	change(func(x *owner.Envelope) { x.Meta = meta.Meta{} })
	change(func(x *owner.Envelope) { x.Stamp = fresh.Stamp{} })
	return l
}

// apart is the same, in memory of its own.
func apart(m meta.Meta) meta.Meta {
	m.Rights.Readers, m.Rights.Writers = slices.Clone(m.Rights.Readers), slices.Clone(m.Rights.Writers)
	m.Verify, m.Blocks = slices.Clone(m.Verify), slices.Clone(m.Blocks)
	return m
}

// same tells whether both are the same, lists of nothing nil or empty.
func same(a, b meta.Meta) bool {
	r, s := a.Rights, b.Rights
	return r.Owner == s.Owner && r.File == s.File && r.Epoch == s.Epoch && slices.Equal(r.Readers, s.Readers) && slices.Equal(r.Writers, s.Writers) &&
		a.Version == b.Version && slices.Equal(a.Verify, b.Verify) && slices.Equal(a.Blocks, b.Blocks) && a.Sig == b.Sig
}

// alike tells whether both keys are the same, lists of nothing nil or empty.
func alike(k, l reader.Keys) bool {
	return k.Path == l.Path && k.Epoch == l.Epoch && k.State == l.State && k.Signer == l.Signer && slices.Equal(k.Verify, l.Verify)
}

// show is what is handed in, or answered, as a test tells of it, without the far end.
func show(x any) string {
	s := fmt.Sprintf("%+.300q", x)
	return s[:min(900, len(s))]
}

// longest is a name of the most runes, of the most bytes.
var longest = strings.Repeat("\u044f", 32)

// names are some of each script, not in order, more than a user can own as files, or grant a right to.
func names() []string {
	return []string{"notes", "ben", "\u00e4", "cy", "dora", "-", "a", "anna", "z", "ab", "0", "\u03b1", "bills", longest, "10", "9", "b-1"}
}

// noNames are texts that are no name, each in its way.
func noNames() []string {
	return []string{"", "A", "Anna", "anna ", " anna", "an/na", "anna/notes", "a\x00", "\xff", "a\xc3", "\u00f7", "\u00c4", "\u0450", "\x00", strings.Repeat("q", 33), longest + "\u044f"}
}

// eight are names of as many files as can be owned.
func eight() []string { return names()[:8] }

// numbers are some next to bounds, and far from them.
var numbers = []int{0, 1, 2, 3, 4, 5, 6, 7, 8, 9, 16, 255, 256, 1 << 32, 1<<32 + 1, 1<<63 - 1, -1, -2, -7, -8, -256, -1 << 32, -1 << 63}

// deep is a right term that no other can be made of.
var deep = strings.Repeat("h", 39) + "a\x01\x08"

// words is a term that is a text.
func words(long int) string { return text(strings.Repeat("x", long)) }

// wrongTerms are texts that are no right term, whole.
var wrongTerms = []string{"", "x", "a", "a\x01", "a\x01\x00", "a\x00x", "pa\x00", "t\x01\x02a", "ba\x00a\x00", "ga\x00", "h" + deep, words(3997), "\xff", " a\x00"}

// rightTerms are right terms of each kind, flat and deep, short and long.
var rightTerms = []string{
	"a\x00", "a\x01\x05", "t\x00", "t\x01\x02hi", "pa\x00t\x00", "ha\x00", "sa\x00a\x01\x01", "ua\x01\x01", "uua\x00", "bua\x00a\x00", "bua\x00pt\x00t\x00", "ga\x00t\x00", "ga\x01\x01t\x01\x01x", deep, words(3996), "u" + words(3995), "ga\x00" + words(3993),
}

// terms are all of these.
func terms() []string { return slices.Concat(wrongTerms, rightTerms) }

// times are times next to bounds, and far from them.
var times = []uint64{0, 1, 7, 255, 256, 1 << 32, 1<<63 - 1, 1 << 63, 1<<64 - 2, 1<<64 - 1}

// dice are numbers that come one behind the other, the same of the same beginning.
type dice struct{ n uint64 }

func (d *dice) roll(most int) int {
	d.n = d.n*6364136223846793005 + 1442695040888963407
	return int(d.n >> 33 % uint64(most))
}
