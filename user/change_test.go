package user_test

import (
	"fmt"
	"testing"

	"letterlock/api"
	"letterlock/user"
)

// N3: calls one behind the other, and what is held then, written out.
func TestSomeChanges(t *testing.T) {
	u, _ := user.New("anna", 0)
	for i, c := range []struct {
		d    event
		want api.Errno
		held string // of the notes
	}{
		{event{'g', "notes", "ben", true}, api.ErrNone, ""},
		{event{do: 'k', file: "notes", who: "ben"}, api.ErrNone, ""},
		{event{do: 'm', file: "notes"}, api.ErrNone, ""},
		{event{do: 'c', file: "notes"}, api.OK, "0 [] [] version 1 of 1"},
		{event{do: 'c', file: "notes"}, api.ErrThere, "0 [] [] version 1 of 1"},
		{event{'g', "notes", "cy", false}, api.OK, "0 [cy] [] version 2 of 1"},
		{event{'g', "notes", "ben", false}, api.OK, "0 [ben cy] [] version 3 of 1"},
		{event{'g', "notes", "dora", true}, api.OK, "0 [ben cy] [dora] version 4 of 1"},
		{event{'g', "notes", "dora", false}, api.ErrThere, "0 [ben cy] [dora] version 4 of 1"},
		{event{'g', "notes", "ben", true}, api.ErrThere, "0 [ben cy] [dora] version 4 of 1"},
		{event{'g', "notes", "anna", true}, api.ErrThere, "0 [ben cy] [dora] version 4 of 1"},
		{event{'g', "notes", "Ben", true}, api.ErrName, "0 [ben cy] [dora] version 4 of 1"},
		{event{do: 'k', file: "notes", who: "Ben"}, api.ErrName, "0 [ben cy] [dora] version 4 of 1"},
		{event{do: 'k', file: "notes", who: "anna"}, api.ErrNone, "0 [ben cy] [dora] version 4 of 1"},
		{event{do: 'k', file: "notes", who: "dora"}, api.OK, "1 [ben cy] [] version 5 of 2"},
		{event{do: 'k', file: "notes", who: "dora"}, api.ErrNone, "1 [ben cy] [] version 5 of 2"},
		{event{do: 'k', file: "notes", who: "ben"}, api.OK, "2 [cy] [] version 6 of 3"},
		{event{'g', "notes", "ben", true}, api.OK, "2 [cy] [ben] version 7 of 3"},
		{event{do: 'm', file: "bills"}, api.ErrNone, "2 [cy] [ben] version 7 of 3"},
		{event{do: 'm', file: "notes"}, api.OK, ""},
		{event{do: 'm', file: "notes"}, api.ErrNone, ""},
		{event{'g', "notes", "dora", true}, api.ErrNone, ""},
		{event{do: 'k', file: "notes", who: "ben"}, api.ErrNone, ""},
		{event{do: 'c', file: "notes"}, api.OK, "0 [] [] version 8 of 1"},
		{event{do: 'k', file: "notes", who: "ben"}, api.ErrNone, "0 [] [] version 8 of 1"},
		{event{'g', "notes", "ben", false}, api.OK, "0 [ben] [] version 9 of 1"},
	} {
		if e := call(u, c.d); e != c.want {
			t.Errorf("%d: %s: %v", i, tell(c.d), e)
		}
		x, e := u.Own("notes")
		held := fmt.Sprintf("%d %v %v version %d of %d", x.Rights.Epoch, x.Rights.Readers, x.Rights.Writers, x.Version, len(x.Signers))
		if e == api.OK && held != c.held || (e == api.OK) != (c.held != "") {
			t.Errorf("%d: behind %s: %s, %v", i, tell(c.d), held, e)
		}
	}
}

// N3: a signer that is drawn at a revoke, written out: the fourth draw.
func TestSignerOfARevoke(t *testing.T) {
	b := newBoth(t, "anna", 0)
	b.must(b.create("notes"))
	b.must(b.grant("notes", "ben", true))
	before, _ := b.u.Own("notes")
	b.must(b.revoke("notes", "ben"))
	x, _ := b.u.Own("notes")
	if len(x.Signers) != 2 || x.Signers[0] != before.Signers[0] || x.Signers[1] != "hpt\x01\x0fsign:anna/notesa\x08\xf8\x8b\xb8\xa8\x72\x4c\x81\xec" || x.Root != before.Root {
		t.Errorf("%s", show(x))
	}
	b.hold()
}

// N3: rights' errors are told in their order, of who is no name, too; what is not owned is told ahead of them.
func TestErrorsOfChanges(t *testing.T) {
	b := newBoth(t, "anna", 1)
	b.must(b.create("notes"))
	b.must(b.create("gone"))
	b.must(b.remove("gone"))
	b.must(b.grant("notes", "ben", true))
	for _, who := range append(append(names(), noNames()...), "nobody") {
		for _, file := range append(append(names(), noNames()...), "gone", "note", "notess") {
			for _, d := range []event{{'g', file, who, false}, {'g', file, who, true}, {do: 'k', file: file, who: who}} {
				c := b.copied()
				if e := c.do(d); file != "notes" && e != api.ErrNone {
					t.Errorf("%s: %v", tell(d), e)
				}
				c.hold(file, "notes", "gone")
			}
		}
	}
	b.hold("gone")
}

// N3: five others, and not one more, readers and writers.
func TestBoundOfOthers(t *testing.T) {
	for writers := range 6 {
		b := newBoth(t, "anna", 1)
		b.must(b.create("notes"))
		for i, who := range []string{"ben", "cy", "dora", "emil", "fay"} {
			b.must(b.grant("notes", who, i < writers))
		}
		for _, write := range []bool{false, true} {
			if e := b.grant("notes", "gus", write); e != api.ErrBig {
				t.Error(e)
			}
			if e := b.grant("notes", "ben", write); e != api.ErrThere {
				t.Error(e)
			}
		}
		b.must(b.revoke("notes", "cy"))
		b.must(b.grant("notes", "gus", writers%2 == 0))
		if e := b.grant("notes", "cy", false); e != api.ErrBig {
			t.Error(e)
		}
		b.hold()
		b.must(b.create("bills"))
		b.must(b.grant("bills", "cy", false))
		b.hold()
	}
}

// N3: seven times a right is revoked, and not once more; all else goes on, and one that is created anew has all epochs again.
func TestEndOfAChain(t *testing.T) {
	b := newBoth(t, "anna", 1)
	for range 3 {
		b.must(b.create("notes"))
		for i := range 7 {
			b.must(b.grant("notes", "ben", i%2 == 0))
			b.must(b.revoke("notes", "ben"))
			if x, _ := b.u.Own("notes"); x.Rights.Epoch != i+1 || len(x.Signers) != i+2 {
				t.Errorf("%d: %s", i, show(x))
			}
			b.hold()
		}
		b.must(b.grant("notes", "ben", true))
		for _, c := range []struct {
			who  string
			want api.Errno
		}{{"ben", api.ErrChain}, {"cy", api.ErrNone}, {"anna", api.ErrNone}, {"Ben", api.ErrName}, {"ben", api.ErrChain}} {
			if e := b.revoke("notes", c.who); e != c.want {
				t.Errorf("%q: %v", c.who, e)
			}
			b.hold()
		}
		b.must(b.grant("notes", "cy", false))
		b.hold()
		b.must(b.remove("notes"))
	}
}

// N3: a change of one file is nothing to another one.
func TestFilesDoNotMix(t *testing.T) {
	for _, changed := range eight() {
		b := newBoth(t, "ben", 1)
		kept := map[string]user.Owned{}
		for i, file := range eight() {
			b.must(b.create(file))
			b.must(b.grant(file, "fay", i%2 == 0))
			kept[file], _ = b.u.Own(file)
		}
		for _, d := range []event{{'g', changed, "gus", true}, {do: 'k', file: changed, who: "fay"}, {do: 'k', file: changed, who: "gus"}, {do: 'm', file: changed}, {do: 'c', file: changed}} {
			b.must(b.do(d))
			for _, file := range eight() {
				if x, e := b.u.Own(file); file != changed && (!same(x, kept[file]) || e != api.OK) {
					t.Errorf("%s: %s, not %s", tell(d), show(x), show(kept[file]))
				}
			}
			b.hold(eight()...)
		}
	}
}

// N3: what is removed is gone, and only that.
func TestRemoveOfEach(t *testing.T) {
	for _, gone := range eight() {
		b := newBoth(t, "anna", 1)
		for _, file := range eight() {
			b.must(b.create(file))
		}
		b.must(b.remove(gone))
		for range 2 {
			for _, e := range []api.Errno{b.remove(gone), b.grant(gone, "ben", true), b.revoke(gone, "ben")} {
				if e != api.ErrNone {
					t.Errorf("%q: %v", gone, e)
				}
			}
		}
		if x, e := b.u.Own(gone); !same(x, user.Owned{}) || e != api.ErrNone || len(b.u.Files()) != 7 {
			t.Errorf("%s, %v", show(x), e)
		}
		b.hold(eight()...)
	}
}
