package user_test

import (
	"slices"
	"strings"
	"testing"

	"letterlock/api"
	"letterlock/user"
)

// N2: a file, its root and its signer, written out: the second draw, and the third.
func TestCreate(t *testing.T) {
	u, _ := user.New("anna", 0)
	if e := u.Create("notes"); e != api.OK {
		t.Fatal(e)
	}
	x, e := u.Own("notes")
	want := user.Owned{
		Rights:  api.Rights{Owner: "anna", File: "notes"},
		Version: 1,
		Root:    "hpt\x01\x0froot:anna/notesa\x08\x6e\x78\x9e\x6a\xa1\xb9\x65\xf4",
		Signers: []string{"hpt\x01\x0fsign:anna/notesa\x08\x06\xc4\x5d\x18\x80\x09\x45\x4f"},
	}
	if !same(x, want) || e != api.OK {
		t.Errorf("%s, %v", show(x), e)
	}
}

// N2: files of each name, of each user; its own name is one, too.
func TestCreateOfEachName(t *testing.T) {
	for _, n := range names() {
		b := newBoth(t, n, 5)
		for _, file := range names() {
			b.must(b.create(file))
			b.hold(names()...)
			b.must(b.remove(file))
			b.hold(names()...)
		}
	}
}

// N2: what is no name is no file, whatever there is.
func TestCreateOfNoName(t *testing.T) {
	b := newBoth(t, "anna", 5)
	refused := func() {
		t.Helper()
		for _, file := range noNames() {
			if e := b.create(file); e != api.ErrName {
				t.Errorf("%.80q: %v", file, e)
			}
			b.hold(file)
		}
	}
	refused()
	for _, file := range eight() {
		b.must(b.create(file))
		refused()
	}
}

// N2: file names of each length next to which they are refused.
func TestCreateOfEachLength(t *testing.T) {
	for _, one := range []string{"a", "\u044f"} {
		b := newBoth(t, longest, 5)
		for many := range 40 {
			file, want := strings.Repeat(one, many), api.ErrName
			if many >= 1 && many <= 32 {
				want = api.OK
			}
			if e := b.create(file); e != want {
				t.Errorf("%d of %q: %v", many, one, e)
			}
			b.hold(file)
			b.remove(file)
		}
	}
}

// N2: what there is, is not created again, until it is gone.
func TestCreateOfWhatThereIs(t *testing.T) {
	b := newBoth(t, "anna", 5)
	for _, file := range eight() {
		b.must(b.create(file))
	}
	b.must(b.grant("notes", "ben", true))
	for range 2 {
		for _, file := range eight() {
			if e := b.create(file); e != api.ErrThere {
				t.Errorf("%q: %v", file, e)
			}
			b.hold(file)
		}
	}
	b.must(b.remove("notes"))
	b.must(b.create("notes"))
	if e := b.create("notes"); e != api.ErrThere {
		t.Error(e)
	}
	b.hold()
}

// N2: eight files that are not gone, and not one more; one that is gone makes place for one.
func TestBoundOfFiles(t *testing.T) {
	b := newBoth(t, "anna", 5)
	for i, file := range eight() {
		if len(b.u.Files()) != i {
			t.Errorf("%d, not %d", len(b.u.Files()), i)
		}
		b.must(b.create(file))
	}
	for _, file := range names()[8:] {
		if e := b.create(file); e != api.ErrBig {
			t.Errorf("%q: %v", file, e)
		}
		b.hold(file)
	}
	last := eight()[0]
	for range 3 {
		for _, file := range names()[8:] { // each in the place of the one ahead
			b.must(b.remove(last))
			b.must(b.create(file))
			if b.create(last) != api.ErrBig || b.create("more") != api.ErrBig {
				t.Errorf("%q: more than eight", file)
			}
			b.hold(file, last)
			last = file
		}
	}
	for i, file := range b.u.Files() {
		b.must(b.remove(file))
		if len(b.u.Files()) != 7-i {
			t.Errorf("%d, not %d", len(b.u.Files()), 7-i)
		}
	}
	for _, file := range eight() {
		b.must(b.create(file))
	}
	b.hold(names()...)
}

// N2: many files that are gone take no place.
func TestGoneFilesTakeNoPlace(t *testing.T) {
	u, _ := user.New("anna", 5)
	for i := range 4000 {
		file := "f" + strings.Repeat("x", i%30) + string(rune('a'+i/30%26))
		if e := u.Create(file); e != api.OK {
			t.Fatalf("%d: %v", i, e)
		}
		if e := u.Remove(file); e != api.OK {
			t.Fatalf("%d: %v", i, e)
		}
	}
	for _, file := range eight() {
		if e := u.Create(file); e != api.OK {
			t.Errorf("%q: %v", file, e)
		}
	}
	if e := u.Create("more"); e != api.ErrBig {
		t.Error(e)
	}
}

// N2: of one of that name that is gone the version goes on, and nothing else.
func TestCreateOfWhatIsGone(t *testing.T) {
	b := newBoth(t, "anna", 5)
	want := uint64(0)
	for round := range 6 {
		b.must(b.create("notes"))
		want++
		x, _ := b.u.Own("notes")
		if x.Version != want || len(x.Signers) != 1 || x.Gone || !sameRights(x.Rights, api.Rights{Owner: "anna", File: "notes"}) {
			t.Errorf("%d: %s", round, show(x))
		}
		b.hold("bills")
		for i := range round { // of the first one that goes nothing is changed
			b.must(b.grant("notes", "ben", i%2 == 0))
			b.must(b.revoke("notes", "ben"))
			want += 2
		}
		b.must(b.remove("notes"))
		b.hold("notes", "bills")
	}
	b.must(b.create("bills"))
	if x, _ := b.u.Own("bills"); x.Version != 1 {
		t.Errorf("version %d of what there never was", x.Version)
	}
}

// N2, N3: a call that errs draws nothing: the next secret is the next draw, whatever erred ahead of it.
func TestErrorsDrawNothing(t *testing.T) {
	errs := func(b *both) {
		b.t.Helper()
		for _, d := range []event{
			{do: 'c', file: "notes"}, {do: 'c', file: "Notes"}, {do: 'c', file: ""}, {do: 'c', file: "more"},
			{do: 'g', file: "x", who: "ben"}, {do: 'g', file: "notes", who: "ben"}, {do: 'g', file: "notes", who: "B"}, {do: 'g', file: "notes", who: "anna"},
			{do: 'k', file: "x", who: "ben"}, {do: 'k', file: "notes", who: "B"}, {do: 'k', file: "notes", who: "nobody"}, {do: 'm', file: "x"},
		} {
			if b.do(d) == api.OK {
				b.t.Fatal(tell(d))
			}
		}
	}
	for _, all := range []bool{false, true} {
		b := newBoth(t, "anna", 0)
		for _, file := range eight() {
			b.must(b.create(file))
		}
		b.must(b.grant("notes", "ben", false))
		b.must(b.grant("notes", "cy", false))
		if all {
			errs(b)
		}
		b.must(b.revoke("notes", "cy"))
		if all {
			errs(b)
		}
		b.must(b.remove("ben"))
		b.must(b.create("ben"))
		if all {
			errs(b)
		}
		signer, root := b.o.oughtSecret("sign", "anna/notes", 17), b.o.oughtSecret("root", "anna/ben", 18)
		x, _ := b.u.Own("notes")
		y, _ := b.u.Own("ben")
		if !slices.Equal(x.Signers[1:], []string{signer}) || y.Root != root {
			t.Errorf("%v: %q, %q", all, x.Signers, y.Root)
		}
		b.hold()
	}
}
