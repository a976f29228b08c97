package user_test

import (
	"fmt"
	"slices"
	"strings"
	"testing"

	"letterlock/api"
	"letterlock/meta"
	"letterlock/user"
)

// both are a user, and what it ought to be: what is done with one is done with the other, and told alike.
type both struct {
	t *testing.T
	u *user.User
	o ought
}

func newBoth(t *testing.T, name string, seed uint64) *both {
	t.Helper()
	u, e := user.New(name, seed)
	if u == nil || e != api.OK {
		t.Fatalf("New(%.80q, %d): %v", name, seed, e)
	}
	return &both{t: t, u: u, o: ought{name: name, seed: seed}}
}

// call does an event with a user.
func call(u *user.User, d event) api.Errno {
	switch d.do {
	case 'c':
		return u.Create(d.file)
	case 'g':
		return u.Grant(d.file, d.who, d.write)
	case 'k':
		return u.Revoke(d.file, d.who)
	}
	return u.Remove(d.file)
}

func (b *both) do(d event) api.Errno {
	b.t.Helper()
	want := b.o.do(d)
	if e := call(b.u, d); e != want {
		b.t.Fatalf("%s: %v, not %v", tell(d), e, want)
	}
	return want
}

func (b *both) create(file string) api.Errno {
	b.t.Helper()
	return b.do(event{do: 'c', file: file})
}

func (b *both) grant(file, who string, write bool) api.Errno {
	b.t.Helper()
	return b.do(event{'g', file, who, write})
}

func (b *both) revoke(file, who string) api.Errno {
	b.t.Helper()
	return b.do(event{do: 'k', file: file, who: who})
}

func (b *both) remove(file string) api.Errno {
	b.t.Helper()
	return b.do(event{do: 'm', file: file})
}

// must does what may not err.
func (b *both) must(e api.Errno) {
	b.t.Helper()
	if e != api.OK {
		b.t.Fatal(e)
	}
}

// copied is a copy of both.
func (b *both) copied() *both { return &both{b.t, b.u.Copy(), b.o.copied()} }

// hold holds all answers against what they ought to be, those that ask for a file for each of these, and for all that are held.
func (b *both) hold(files ...string) {
	b.t.Helper()
	if b.u.Name() != b.o.name || b.u.Secret() != b.o.secret() || b.u.Public() != "u"+b.o.secret() {
		b.t.Fatalf("%q, %q, %q", b.u.Name(), b.u.Secret(), b.u.Public())
	}
	held := b.o.files()
	if l := b.u.Files(); !slices.Equal(l, held) {
		b.t.Fatalf("Files: %q, not %q", l, held)
	}
	for _, file := range append(files, held...) {
		want, wantError := b.o.own(file)
		if x, e := b.u.Own(file); !same(x, want) || e != wantError {
			b.t.Fatalf("Own(%.80q): %s, %v, not %s, %v", file, show(x), e, show(want), wantError)
		}
		b.says(file, everybody())
		b.says(file, nil)
	}
}

// says holds what a user says of a file against what it ought to say.
func (b *both) says(file string, known []meta.Known) (meta.Meta, api.Errno) {
	b.t.Helper()
	want, wantError := b.o.meta(file, known)
	m, e := b.u.Meta(file, known)
	if !sameMeta(m, want) || e != wantError {
		b.t.Fatalf("Meta(%.80q, %.80q): %.400q, %v, not %.400q, %v", file, known, fmt.Sprint(m), e, fmt.Sprint(want), wantError)
	}
	return m, e
}

// same tells whether both are the same, lists of nothing nil or empty.
func same(a, b user.Owned) bool {
	return sameRights(a.Rights, b.Rights) && a.Version == b.Version && a.Root == b.Root && slices.Equal(a.Signers, b.Signers) && a.Gone == b.Gone
}

func sameRights(a, b api.Rights) bool {
	return a.Owner == b.Owner && a.File == b.File && a.Epoch == b.Epoch && slices.Equal(a.Readers, b.Readers) && slices.Equal(a.Writers, b.Writers)
}

func sameMeta(a, b meta.Meta) bool {
	return sameRights(a.Rights, b.Rights) && a.Version == b.Version && slices.Equal(a.Verify, b.Verify) && slices.Equal(a.Blocks, b.Blocks) && a.Sig == b.Sig
}

// fresh is the same, in memory of its own.
func fresh(x user.Owned) user.Owned {
	x.Rights.Readers, x.Rights.Writers, x.Signers = slices.Clone(x.Rights.Readers), slices.Clone(x.Rights.Writers), slices.Clone(x.Signers)
	return x
}

func show(x user.Owned) string {
	return fmt.Sprintf("%+v version %d root %.80q signers %.80q gone %v", x.Rights, x.Version, x.Root, x.Signers, x.Gone)
}

func tell(d event) string { return fmt.Sprintf("%c %.80q %.80q %v", d.do, d.file, d.who, d.write) }

// everybody is whom all know, each by a public term of its own.
func everybody() []meta.Known {
	var l []meta.Known
	for i, n := range names() {
		l = append(l, meta.Known{Name: n, Public: "ua\x01" + string([]byte{byte(i + 1)})})
	}
	return l
}

// longest is a name of the most runes, of the most bytes.
var longest = strings.Repeat("\u044f", 32)

// names are some of each script, not in order, more than a user can own as files, or grant a right to.
func names() []string {
	return []string{"notes", "ben", "\u00e4", "cy", "dora", "-", "a", "anna", "z", "ab", "0", "\u03b1", "bills", longest, "10", "9", "b-1"}
}

// noNames are texts that are no name, each in its way.
func noNames() []string {
	return []string{"", "A", "Anna", "anna ", " anna", "an/na", "anna/notes", "a\x00", "\xff", "a\xc3", "\u00f7", "\u00c4", "\u0450", "\x00", strings.Repeat("q", 33), longest + "\u044f", strings.Repeat("z", 1<<16)}
}

// seeds are some of which a draw is made of 0, or next to it, or goes round, and some between; each is another one.
func seeds() []uint64 {
	l := []uint64{0, 1, 2, 7, 255, 256, 1 << 32, 1 << 63, 1<<64 - 1, 0x0102030405060708}
	for i := range uint64(4) {
		x := -(i + 1) * 0x9E3779B97F4A7C15
		l = append(l, x-1, x, x+1)
	}
	return l
}

// eight are names of as many files as can be owned.
func eight() []string { return names()[:8] }

// dice are numbers that come one behind the other, the same of the same beginning.
type dice struct{ n uint64 }

func (d *dice) roll(most int) int {
	d.n = d.n*6364136223846793005 + 1442695040888963407
	return int(d.n >> 33 % uint64(most))
}
