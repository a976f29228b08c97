package user_test

import (
	"slices"
	"strings"
	"testing"

	"letterlock/api"
	"letterlock/meta"
	"letterlock/user"
)

// N4: files in the order of their bytes, written out, however they came.
func TestFilesInOrder(t *testing.T) {
	want := []string{"-", "10", "9", "a", "ab", "b-1", "\u00e4", "\u044f"}
	d := &dice{2}
	for range 200 {
		l := slices.Clone(want)
		for i := range l {
			at := i + d.roll(len(l)-i)
			l[i], l[at] = l[at], l[i]
		}
		b := newBoth(t, "anna", 5)
		for _, file := range l {
			b.must(b.create(file))
		}
		for range 5 {
			if got := b.u.Files(); !slices.Equal(got, want) {
				t.Fatalf("%q, not %q", got, want)
			}
		}
		gone := d.roll(8)
		b.must(b.remove(want[gone]))
		if got := b.u.Files(); !slices.Equal(got, slices.Delete(slices.Clone(want), gone, gone+1)) {
			t.Fatalf("%q", got)
		}
	}
}

// N4: Own and Meta of what is not owned, of no name, too.
func TestNoneSuch(t *testing.T) {
	b := newBoth(t, "anna", 5)
	for _, file := range []string{"notes", "bills"} {
		b.must(b.create(file))
	}
	b.must(b.remove("bills"))
	for _, file := range append(noNames(), "bills", "note", "notess", "anna", "anna/notes", "f/anna/notes", "Notes", "\u00e4") {
		x, e := b.u.Own(file)
		m, f := b.u.Meta(file, everybody())
		if !same(x, user.Owned{}) || e != api.ErrNone || !sameMeta(m, meta.Meta{}) || f != api.ErrNone {
			t.Errorf("%.80q: %s, %v, %v", file, show(x), e, f)
		}
	}
}

// N4: a meta of what is held, that checks with the user's public term, and that who has a right opens.
func TestMeta(t *testing.T) {
	b := newBoth(t, "anna", 5)
	b.must(b.create("notes"))
	b.must(b.grant("notes", "ben", true))
	b.must(b.grant("notes", "cy", false))
	b.must(b.grant("notes", "dora", false))
	b.must(b.revoke("notes", "dora"))
	m, e := b.u.Meta("notes", []meta.Known{{Name: "cy", Public: "ua\x01\x05"}, {Name: "ben", Public: "ua\x01\x06"}})
	x, _ := b.u.Own("notes")
	if e != api.OK || !sameRights(m.Rights, x.Rights) || m.Version != 5 || !slices.Equal(m.Verify, []string{"u" + x.Signers[0], "u" + x.Signers[1]}) {
		t.Fatalf("%v: version %d, %q", e, m.Version, m.Verify)
	}
	if e := meta.Check(m, b.u.Public(), "anna", "notes"); e != api.OK {
		t.Error(e)
	}
	state := strings.Repeat("h", 6) + x.Root // of the second of eight epochs
	if s, signer, e := meta.Open(m, "ben", "a\x01\x06"); s != state || signer != x.Signers[1] || e != api.OK {
		t.Errorf("%q, %q, %v", s, signer, e)
	}
	if s, signer, e := meta.Open(m, "cy", "a\x01\x05"); s != state || signer != "" || e != api.OK {
		t.Errorf("%q, %q, %v", s, signer, e)
	}
	if _, _, e := meta.Open(m, "dora", "a\x01\x05"); e != api.ErrDenied {
		t.Error(e)
	}
}

// N4: the errors of Meta are those of meta.Build, and it changes nothing.
func TestMetaErrors(t *testing.T) {
	b := newBoth(t, "anna", 5)
	b.must(b.create("notes"))
	if _, e := b.says("notes", nil); e != api.OK {
		t.Error(e)
	}
	b.must(b.grant("notes", "ben", true))
	b.must(b.grant("notes", "cy", false))
	ben, cy := meta.Known{Name: "ben", Public: "ua\x01\x06"}, meta.Known{Name: "cy", Public: "ua\x01\x05"}
	great := meta.Known{Name: "cy", Public: "ut\x02\x0f\x80" + strings.Repeat("x", 3968)}
	for i, c := range []struct {
		known []meta.Known
		want  api.Errno
	}{
		{nil, api.ErrNone}, {[]meta.Known{ben}, api.ErrNone}, {[]meta.Known{cy}, api.ErrNone}, {[]meta.Known{cy, ben}, api.OK}, {[]meta.Known{ben, cy}, api.OK},
		{[]meta.Known{ben, {Name: "cy", Public: "x"}}, api.ErrArg}, {[]meta.Known{{Name: "ben", Public: ""}, cy, ben}, api.ErrArg}, {[]meta.Known{{Name: "ben", Public: "a\x00"}}, api.ErrArg},
		{[]meta.Known{ben, cy, {Name: "cy", Public: "x"}}, api.OK}, {[]meta.Known{ben, great}, api.ErrBig}, {[]meta.Known{great}, api.ErrNone}, {everybody(), api.OK},
	} {
		m, e := b.says("notes", c.known)
		if e != c.want || e != api.OK && !sameMeta(m, meta.Meta{}) {
			t.Errorf("%d: %v, not %v", i, e, c.want)
		}
		b.hold("notes")
	}
	b.must(b.revoke("notes", "ben")) // the next draw, whatever was asked
	b.hold()
}

// N4: of long names, long public terms and many epochs a body is too great, which changes nothing either.
func TestMetaOfTheGreatest(t *testing.T) {
	var known []meta.Known
	for i := range 6 {
		known = append(known, meta.Known{Name: longest[2:] + string(rune('a'+i)), Public: "ut\x02\x01\x00" + strings.Repeat("x", 256)})
	}
	b := newBoth(t, longest, 1<<64-1)
	b.must(b.create(longest))
	seen := map[api.Errno]int{}
	for i := range 7 {
		for _, k := range known {
			b.grant(longest, k.Name, i%2 == 0)
			_, e := b.says(longest, known)
			seen[e]++
		}
		b.must(b.revoke(longest, known[i%5].Name))
		b.hold()
	}
	if seen[api.OK] < 5 || seen[api.ErrBig] < 5 || len(seen) != 2 {
		t.Error(seen)
	}
}

// N4: a copy is the same, with all that is held, and all that is gone.
func TestCopy(t *testing.T) {
	for seed := range uint64(30) {
		b, d := newBoth(t, "anna", seed), &dice{seed}
		for range 40 {
			b.step(d)
			c := b.copied()
			c.hold(names()...)
			if e := c.create("new"); e == api.OK { // the next draw
				c.hold()
			}
			b.hold(append(names(), "new")...)
		}
	}
}

// N4: what is done with a copy is nothing to the one that it is of, nor the other way round; each draws the same from there on.
func TestCopiesGoTheirWays(t *testing.T) {
	for seed := range uint64(20) {
		b, d := newBoth(t, "anna", seed), &dice{seed + 100}
		all := []*both{b}
		for i := range 60 {
			x := all[d.roll(len(all))]
			if i%10 == 5 {
				all = append(all, x.copied())
			}
			x.step(d)
			for _, y := range all {
				y.hold(names()...)
			}
		}
	}
}

// N4: at each epoch, a signer that one of two draws behind a copy is not seen in the other one, whichever draws first.
func TestSignersOfCopiesAreApart(t *testing.T) {
	for epoch := range 7 {
		for _, first := range []int{0, 1} {
			b := newBoth(t, "anna", 5)
			b.must(b.create("notes"))
			for range epoch {
				b.must(b.grant("notes", "ben", true))
				b.must(b.revoke("notes", "ben"))
			}
			b.must(b.grant("notes", "ben", true))
			two := []*both{b, b.copied()}
			b.must(b.create("bills")) // for which a copy draws nothing, so that each has another signer next
			for i := range two {
				x := two[(i+first)%2]
				x.must(x.revoke("notes", "ben"))
				two[0].hold()
				two[1].hold()
			}
		}
	}
}

// N4: the same that is done with a copy and with the one that it is of does the same.
func TestCopyDrawsTheSame(t *testing.T) {
	for seed := range uint64(10) {
		b, d := newBoth(t, "anna", seed), &dice{seed + 200}
		for range 30 {
			b.step(d)
		}
		one, two := b.copied(), b.copied().copied()
		dices := []*dice{{7}, {7}, {7}}
		for range 60 {
			for i, x := range []*both{b, one, two} {
				x.step(dices[i])
				x.hold(names()...)
			}
			for _, file := range names() {
				x, _ := b.u.Own(file)
				y, _ := one.u.Own(file)
				z, _ := two.u.Own(file)
				if !same(x, y) || !same(x, z) {
					t.Fatalf("%q: %s, %s, %s", file, show(x), show(y), show(z))
				}
			}
		}
	}
}
