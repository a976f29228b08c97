package owner_test

import (
	"slices"
	"strings"
	"testing"

	"letterlock/api"
	"letterlock/meta"
	"letterlock/owner"
	"letterlock/user"
)

// O3: leaves, written out, in order, of the versions that there are.
func TestLeaves(t *testing.T) {
	u := newUser(t, "anna", 1)
	leaves := func(want ...string) {
		t.Helper()
		if l := owner.Leaves(u); !slices.Equal(l, want) {
			t.Errorf("%q, not %q", l, want)
		}
	}
	leaves()
	must(t, u.Create("notes"))
	leaves("pt\x01\x05notesa\x01\x01")
	must(t, u.Create("b"), u.Create("\u00e4"), u.Grant("b", "ben", true), u.Revoke("b", "ben"), u.Grant("\u00e4", "cy", false))
	leaves("pt\x01\x01ba\x01\x03", "pt\x01\x05notesa\x01\x01", "pt\x01\x02\u00e4a\x01\x02")
	must(t, u.Remove("b"))
	leaves("pt\x01\x05notesa\x01\x01", "pt\x01\x02\u00e4a\x01\x02")
	must(t, u.Create("b")) // it goes on from its last version
	leaves("pt\x01\x01ba\x01\x04", "pt\x01\x05notesa\x01\x01", "pt\x01\x02\u00e4a\x01\x02")
	must(t, u.Remove("b"), u.Remove("\u00e4"), u.Remove("notes"))
	leaves()
}

// O3: what is put of two files, written out: that of the first one without a block, that of the other one with one.
func TestPlan(t *testing.T) {
	const (
		secret      = "hpt\x01\x09user:annaa\x08\xe2\x20\xa8\x39\x7b\x1d\xcd\xaf"
		billsLeaf   = "pt\x01\x05billsa\x01\x01"
		notesLeaf   = "pt\x01\x05notesa\x01\x02"
		stampSigned = "pt\x01\x04annapa\x01\x09pa\x01\x02" + "hph" + billsLeaf + "h" + notesLeaf
	)
	u := newUser(t, "anna", 0)
	must(t, u.Create("notes"), u.Create("bills"), u.Grant("notes", "ben", false))
	notes, _ := u.Own("notes")
	bills, _ := u.Own("bills")
	stamp := row("anna", "\x01\x09", "\x01\x02", "hph"+billsLeaf+"h"+notesLeaf, "g"+secret+stampSigned)
	signed := func(body string) string { return row(body, "g"+secret+text(body)) }
	ofBills := row(signed(row(row("anna", "bills", "\x00", row(), row()), "\x01\x01", row("u"+bills.Signers[0]), row())), stamp, "\x00", row("h"+notesLeaf))
	box := "bua\x01\x05" + "p" + strings.Repeat("h", 7) + notes.Root + "t\x00"
	ofNotes := row(signed(row(row("anna", "notes", "\x00", row("ben"), row()), "\x01\x02", row("u"+notes.Signers[0]), row(row("ben", box)))), stamp, "\x01\x01", row("h"+billsLeaf))
	known := []meta.Known{{Name: "ben", Public: "ua\x01\x05"}}
	for _, c := range []struct {
		first string
		want  []owner.Op
	}{
		{"", []owner.Op{{Key: "f/anna/bills", Blob: ofBills}, {Key: "f/anna/notes", Blob: ofNotes}}},
		{"bills", []owner.Op{{Key: "f/anna/bills", Blob: ofBills}, {Key: "f/anna/notes", Blob: ofNotes}}},
		{"notes", []owner.Op{{Key: "f/anna/notes", Blob: ofNotes}, {Key: "f/anna/bills", Blob: ofBills}}},
	} {
		if l, e := owner.Plan(u, c.first, 9, known); !slices.Equal(l, c.want) || e != api.OK {
			t.Errorf("%q: %s, %v, not %s", c.first, show(l), e, show(c.want))
		}
		gone := []owner.Op{{Key: "f/anna/" + c.first, Delete: true}, {Key: "d/anna/" + c.first, Delete: true}}
		if l, e := owner.Drop(u, c.first, 9, known); !slices.Equal(l, append(gone, c.want...)) || e != api.OK {
			t.Errorf("%q: %s, %v", c.first, show(l), e)
		}
	}
}

// O3: of each row of files, each of them first, and texts that are none of them, at each time.
func TestEachFirst(t *testing.T) {
	for many := range 9 {
		for _, n := range []string{"anna", "b-1", longest} {
			u := owns(t, n, many)
			for i, first := range slices.Concat(names(), noNames(), []string{"note", "notess", "anna/notes", "f/anna/notes", strings.Repeat("x", 1<<16)}) {
				time := times[i%len(times)]
				l, e := planned(t, u, first, time, everybody())
				d, f := dropped(t, u, first, time, everybody())
				if len(l) != many || e != api.OK || !slices.Equal(d[2:], l) || f != api.OK {
					t.Fatalf("%.80q of %d: %v, %v", first, many, e, f)
				}
			}
		}
	}
}

// O3: keys of what is put are in order, but for the first one, which is ahead of all others, and told once.
func TestOrderOfPlans(t *testing.T) {
	u := newUser(t, "anna", 5)
	for _, file := range []string{"c", "a", "d", "b", "aa"} {
		must(t, u.Create(file))
	}
	for first, want := range map[string]string{
		"": "a aa b c d", "a": "a aa b c d", "aa": "aa a b c d", "b": "b a aa c d", "c": "c a aa b d", "d": "d a aa b c", "e": "a aa b c d", "A": "a aa b c d",
	} {
		l, _ := planned(t, u, first, 1, nil)
		var files []string
		for _, o := range l {
			files = append(files, strings.TrimPrefix(o.Key, "f/anna/"))
			if o.Delete || o.Blob == "" {
				t.Errorf("%q: %s", first, show(o))
			}
		}
		if strings.Join(files, " ") != want {
			t.Errorf("%q: %q, not %q", first, files, want)
		}
	}
}

// O3: who owns nothing puts nothing, and deletes what it gives up all the same.
func TestPlanOfNothing(t *testing.T) {
	for _, n := range names() {
		u := newUser(t, n, 3)
		for range 2 {
			for _, known := range [][]meta.Known{nil, everybody()} {
				l, e := planned(t, u, "notes", 7, known)
				d, f := dropped(t, u, "notes", 7, known)
				if len(l) != 0 || e != api.OK || !slices.Equal(d, []owner.Op{{Key: "f/" + n + "/notes", Delete: true}, {Key: "d/" + n + "/notes", Delete: true}}) || f != api.OK {
					t.Errorf("%s, %v, %s, %v", show(l), e, show(d), f)
				}
			}
			must(t, u.Create("notes"), u.Grant("notes", "none", true), u.Remove("notes")) // what is gone is nobody's
		}
	}
}

// O3: the error of the first file, in order, that has one, whichever is to be first; no list with it.
func TestErrorsOfPlans(t *testing.T) {
	great := meta.Known{Name: "dora", Public: "u" + words(3995)}
	for i, c := range []struct {
		known []meta.Known
		want  api.Errno
	}{
		{everybody(), api.OK},
		{nil, api.ErrNone},
		{without("ben"), api.ErrNone},
		{without("cy"), api.ErrNone},
		{without("dora"), api.ErrNone},
		{without("z", "anna", "notes"), api.OK}, // nobody's
		{append([]meta.Known{{Name: "ben", Public: "x"}}, everybody()...), api.ErrArg},
		{append(everybody(), meta.Known{Name: "ben", Public: "x"}), api.OK},
		{append([]meta.Known{{Name: "ben", Public: "x"}}, without("cy")...), api.ErrArg},
		{append([]meta.Known{{Name: "cy", Public: "a\x00"}}, without("ben")...), api.ErrNone},
		{append([]meta.Known{{Name: "cy", Public: "a\x00"}}, without("dora")...), api.ErrArg},
		{append([]meta.Known{{Name: "dora", Public: ""}}, without("cy")...), api.ErrNone},
		{append([]meta.Known{great}, everybody()...), api.ErrBig},
		{append([]meta.Known{great}, without("cy")...), api.ErrNone},
		{append([]meta.Known{great}, without("ben")...), api.ErrNone},
		{append([]meta.Known{great, {Name: "cy", Public: "t\x00"}}, everybody()...), api.ErrArg},
	} {
		u := newUser(t, "anna", 5)
		must(t, u.Create("d"), u.Create("c"), u.Create("b"), u.Create("a"))
		must(t, u.Grant("b", "ben", true), u.Grant("c", "cy", false), u.Grant("d", "dora", true))
		for _, first := range []string{"a", "b", "c", "d", "e", ""} {
			l, e := planned(t, u, first, 7, c.known)
			d, f := dropped(t, u, first, 7, c.known)
			if e != c.want || f != c.want || (e == api.OK) != (len(l) == 4) || (f == api.OK) != (len(d) == 6) {
				t.Errorf("%d: %q: %v, %v, not %v", i, first, e, f, c.want)
			}
		}
		must(t, u.Remove("b"), u.Remove("c"), u.Remove("d"))
		if _, e := planned(t, u, "a", 7, c.known); e != api.OK { // of what is gone nothing is told
			t.Errorf("%d: %v", i, e)
		}
	}
}

// O3: nobody owns nothing.
func TestNobody(t *testing.T) {
	var u *user.User
	for _, first := range append(names(), noNames()...) {
		for _, known := range [][]meta.Known{nil, everybody()} {
			l, e := owner.Plan(u, first, 7, known)
			d, f := owner.Drop(u, first, 7, known)
			if len(l) != 0 || e != api.ErrArg || len(d) != 0 || f != api.ErrArg || len(owner.Leaves(u)) != 0 {
				t.Errorf("%q: %s, %v, %s, %v", first, show(l), e, show(d), f)
			}
		}
	}
}

// O3: what is dropped, whether it is owned still or not, and what is no name: two keys of it, ahead of all that is put.
func TestDrop(t *testing.T) {
	u := owns(t, "anna", 5)
	must(t, u.Remove("ben"))
	for _, c := range []struct {
		file string
		next string // which is put first
	}{
		{"ben", "cy"}, {"notes", "notes"}, {"cy", "cy"}, {"\u00e4", "\u00e4"}, {"none", "cy"}, {"", "cy"}, {"N", "cy"}, {"x/y", "cy"},
	} {
		l, e := dropped(t, u, c.file, 8, everybody())
		if len(l) != 6 || e != api.OK {
			t.Fatalf("%q: %s, %v", c.file, show(l), e)
		}
		if l[0] != (owner.Op{Key: "f/anna/" + c.file, Delete: true}) || l[1] != (owner.Op{Key: "d/anna/" + c.file, Delete: true}) || l[2].Key != "f/anna/"+c.next {
			t.Errorf("%q: %s", c.file, show(l))
		}
		for _, o := range l[2:] {
			if o.Delete || o.Blob == "" {
				t.Errorf("%q: %s", c.file, show(o))
			}
		}
	}
}
