package owner_test

import (
	"fmt"
	"slices"
	"strings"
	"testing"

	"letterlock/api"
	"letterlock/fresh"
	"letterlock/meta"
	"letterlock/owner"
	"letterlock/user"
)

func newUser(t *testing.T, name string, seed uint64) *user.User {
	t.Helper()
	u, e := user.New(name, seed)
	if u == nil || e != api.OK {
		t.Fatalf("New(%.80q, %d): %v", name, seed, e)
	}
	return u
}

// must does what may not err.
func must(t *testing.T, l ...api.Errno) {
	t.Helper()
	for _, e := range l {
		if e != api.OK {
			t.Fatal(e)
		}
	}
}

// owns is a user that owns as many files, of which each has other rights and another version.
func owns(t *testing.T, name string, many int) *user.User {
	t.Helper()
	u := newUser(t, name, 9)
	for i, file := range eight()[:many] {
		must(t, u.Create(file))
		for j, who := range []string{"ben", "cy", "dora"}[:i%4] {
			must(t, u.Grant(file, who, (i+j)%2 == 0))
		}
		for range i / 4 {
			must(t, u.Grant(file, "z", true), u.Revoke(file, "z"))
		}
	}
	return u
}

// step does one thing with a user, or tries to, with one of some names, some of which are none.
func step(u *user.User, d *dice) api.Errno {
	texts := append(names()[:11:11], "", "Anna", longest)
	file, who := texts[d.roll(len(texts))], texts[d.roll(len(texts))]
	do := "cccggggkkm"[d.roll(10)]
	if held := u.Files(); do != 'c' && d.roll(3) > 0 && len(held) > 0 { // most of the time something that there is
		file = held[d.roll(len(held))]
	}
	switch do {
	case 'c':
		return u.Create(file)
	case 'g':
		return u.Grant(file, who, d.roll(2) == 0)
	case 'k':
		return u.Revoke(file, who)
	}
	return u.Remove(file)
}

// planned holds Leaves and Plan against what they ought to be.
func planned(t *testing.T, u *user.User, first string, time uint64, known []meta.Known) ([]owner.Op, api.Errno) {
	t.Helper()
	if l := owner.Leaves(u); !slices.Equal(l, oughtLeaves(u)) {
		t.Fatalf("Leaves: %q", l)
	}
	want, wantError := oughtPlan(u, first, time, known)
	l, e := owner.Plan(u, first, time, known)
	if !slices.Equal(l, want) || e != wantError {
		t.Fatalf("Plan(%.80q, %d): %s, %v, not %s, %v", first, time, show(l), e, show(want), wantError)
	}
	return l, e
}

// dropped holds Drop against what it ought to be.
func dropped(t *testing.T, u *user.User, file string, time uint64, known []meta.Known) ([]owner.Op, api.Errno) {
	t.Helper()
	want, wantError := oughtDrop(u, file, time, known)
	l, e := owner.Drop(u, file, time, known)
	if !slices.Equal(l, want) || e != wantError {
		t.Fatalf("Drop(%.80q, %d): %s, %v, not %s, %v", file, time, show(l), e, show(want), wantError)
	}
	return l, e
}

// everybody is whom all know, each by a public term of its own, not in order.
func everybody() []meta.Known {
	var l []meta.Known
	for i, n := range names() {
		l = append(l, meta.Known{Name: n, Public: "ua\x01" + string([]byte{byte(i + 1)})})
	}
	return l
}

// without is whom all know, but for these.
func without(l ...string) []meta.Known {
	return slices.DeleteFunc(everybody(), func(k meta.Known) bool { return slices.Contains(l, k.Name) })
}

// least is a right envelope of few bytes, that nobody would plan.
func least() owner.Envelope {
	return owner.Envelope{
		Meta:  meta.Meta{Rights: api.Rights{Owner: "anna", File: "a"}, Version: 1, Verify: []string{"ua\x00"}, Sig: "ga\x00t\x00"},
		Stamp: fresh.Stamp{Owner: "ben", Time: 7, Many: 2, Root: "t\x00", Sig: "ga\x01\x01t\x00"},
	}
}

// plans are the envelopes of all files of some users.
func plans(t *testing.T) []owner.Envelope {
	t.Helper()
	var l []owner.Envelope
	for many := range 9 {
		for _, n := range []string{"anna", longest} {
			ops, e := owner.Plan(owns(t, n, many), "", uint64(many*100), everybody())
			must(t, e)
			for _, o := range ops {
				x, e := owner.Take(o.Blob)
				must(t, e)
				l = append(l, x)
			}
		}
	}
	return l
}

// changes are of each part of an envelope, at each of its places.
func changes() []func(x *owner.Envelope) {
	var l []func(x *owner.Envelope)
	change := func(f func(x *owner.Envelope)) { l = append(l, f) }
	for _, at := range numbers {
		change(func(x *owner.Envelope) { x.At = at })
	}
	for _, t := range slices.Concat(wrongTerms, rightTerms) {
		for many := range 5 {
			change(func(x *owner.Envelope) { x.Proof = slices.Repeat([]string{t}, many) })
			change(func(x *owner.Envelope) { x.Proof = append(slices.Repeat([]string{"ha\x00"}, many), t) })
			change(func(x *owner.Envelope) { x.Proof = append([]string{t}, slices.Repeat([]string{"ha\x00"}, many)...) })
		}
		change(func(x *owner.Envelope) { x.Proof = append(x.Proof, t) })
		change(func(x *owner.Envelope) { x.Meta.Sig = t })
		change(func(x *owner.Envelope) { x.Meta.Verify = []string{t} })
		change(func(x *owner.Envelope) { x.Stamp.Sig = t })
		change(func(x *owner.Envelope) { x.Stamp.Root = t })
	}
	for _, n := range append(names(), noNames()...) {
		change(func(x *owner.Envelope) { x.Meta.Rights.Owner = n })
		change(func(x *owner.Envelope) { x.Meta.Rights.File = n })
		change(func(x *owner.Envelope) { x.Meta.Rights.Readers = []string{n} })
		change(func(x *owner.Envelope) { x.Stamp.Owner = n })
	}
	for _, n := range numbers {
		change(func(x *owner.Envelope) { x.Meta.Rights.Epoch = n })
		change(func(x *owner.Envelope) { x.Meta.Version = uint64(n) })
		change(func(x *owner.Envelope) { x.Stamp.Many = n })
		change(func(x *owner.Envelope) { x.Stamp.Time = uint64(n) })
	}
	change(func(x *owner.Envelope) { x.Meta = meta.Meta{} })
	change(func(x *owner.Envelope) { x.Stamp = fresh.Stamp{} })
	change(func(x *owner.Envelope) { *x = owner.Envelope{} })
	change(func(x *owner.Envelope) { x.Proof = []string{} })
	return l
}

// envelopes are planned ones, and others, each with no change, or one: some right, some not.
func envelopes(t *testing.T) []owner.Envelope {
	t.Helper()
	some := plans(t)
	l := append(slices.Clone(some), least())
	for _, x := range []owner.Envelope{least(), some[0], some[len(some)-1], some[len(some)-5]} {
		for _, change := range changes() {
			y := apart(x)
			change(&y)
			l = append(l, y)
		}
	}
	return l
}

// same tells whether both are the same, lists of nothing nil or empty.
func same(a, b owner.Envelope) bool {
	r, s := a.Meta.Rights, b.Meta.Rights
	return r.Owner == s.Owner && r.File == s.File && r.Epoch == s.Epoch && slices.Equal(r.Readers, s.Readers) && slices.Equal(r.Writers, s.Writers) &&
		a.Meta.Version == b.Meta.Version && slices.Equal(a.Meta.Verify, b.Meta.Verify) && slices.Equal(a.Meta.Blocks, b.Meta.Blocks) && a.Meta.Sig == b.Meta.Sig &&
		a.Stamp == b.Stamp && a.At == b.At && slices.Equal(a.Proof, b.Proof)
}

// apart is the same, in memory of its own.
func apart(x owner.Envelope) owner.Envelope {
	m := &x.Meta
	m.Rights.Readers, m.Rights.Writers = slices.Clone(m.Rights.Readers), slices.Clone(m.Rights.Writers)
	m.Verify, m.Blocks, x.Proof = slices.Clone(m.Verify), slices.Clone(m.Blocks), slices.Clone(x.Proof)
	return x
}

// show is what is handed in, or answered, as a test tells of it, without the far end.
func show(x any) string {
	s := fmt.Sprintf("%+.300q", x)
	return s[:min(900, len(s))]
}

// longest is a name of the most runes, of the most bytes.
var longest = strings.Repeat("\u044f", 32)

// names are some of each script, not in order, more than a user can own as files, or grant a right to.
func names() []string {
	return []string{"notes", "ben", "\u00e4", "cy", "dora", "-", "a", "anna", "z", "ab", "0", "\u03b1", "bills", longest, "10", "9", "b-1"}
}

// noNames are texts that are no name, each in its way.
func noNames() []string {
	return []string{"", "A", "Anna", "anna ", " anna", "an/na", "anna/notes", "a\x00", "\xff", "a\xc3", "\u00f7", "\u00c4", "\u0450", "\x00", strings.Repeat("q", 33), longest + "\u044f"}
}

// eight are names of as many files as can be owned.
func eight() []string { return names()[:8] }

// numbers are some next to bounds, and far from them.
var numbers = []int{0, 1, 2, 3, 4, 5, 6, 7, 8, 9, 16, 255, 256, 1 << 32, 1<<32 + 1, 1<<63 - 1, -1, -2, -7, -8, -256, -1 << 32, -1 << 63}

// deep is a right term that no other can be made of.
var deep = strings.Repeat("h", 39) + "a\x01\x08"

// words is a term that is a text.
func words(long int) string { return text(strings.Repeat("x", long)) }

// wrongTerms are texts that are no right term, whole.
var wrongTerms = []string{"", "x", "a", "a\x01", "a\x01\x00", "a\x00x", "pa\x00", "t\x01\x02a", "ba\x00a\x00", "ga\x00", "h" + deep, words(3997), "\xff", " a\x00"}

// rightTerms are right terms of each kind, flat and deep, short and long.
var rightTerms = []string{
	"a\x00", "a\x01\x05", "t\x00", "t\x01\x02hi", "pa\x00t\x00", "ha\x00", "sa\x00a\x01\x01", "ua\x01\x01", "bua\x00a\x00", "ga\x00t\x00", "ga\x01\x01t\x01\x01x", deep, words(3996), "u" + words(3995), "ga\x00" + words(3993),
}

// times are times next to bounds, and far from them.
var times = []uint64{0, 1, 7, 255, 256, 1 << 32, 1<<63 - 1, 1 << 63, 1<<64 - 2, 1<<64 - 1}

// dice are numbers that come one behind the other, the same of the same beginning.
type dice struct{ n uint64 }

func (d *dice) roll(most int) int {
	d.n = d.n*6364136223846793005 + 1442695040888963407
	return int(d.n >> 33 % uint64(most))
}
