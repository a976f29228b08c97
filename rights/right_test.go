package rights_test

import (
	"testing"

	"letterlock/api"
	"letterlock/rights"
)

// G1: the bound is the one that the chapter names.
func TestMaxOthers(t *testing.T) {
	if rights.MaxOthers != 5 {
		t.Error(rights.MaxOthers)
	}
}

// G1: what is right, and what is not, written out.
func TestRight(t *testing.T) {
	l := func(names ...string) []string { return names }
	for i, c := range []struct {
		r    api.Rights
		want bool
	}{
		{made("anna", "notes", 0, nil, nil), true},
		{made("anna", "anna", 0, []string{}, []string{}), true},
		{made("anna", "notes", 7, l("notes"), nil), true},
		{made("anna", "notes", 8, nil, nil), false},
		{made("anna", "notes", -1, nil, nil), false},
		{made("", "notes", 0, nil, nil), false},
		{made("anna", "", 0, nil, nil), false},
		{made("Anna", "notes", 0, nil, nil), false},
		{made("anna", "my notes", 0, nil, nil), false},
		{made("anna", "notes", 0, l("a", "b", "c", "d", "e"), nil), true},
		{made("anna", "notes", 0, nil, l("a", "b", "c", "d", "e")), true},
		{made("anna", "notes", 0, l("a", "c", "e"), l("b", "d")), true},
		{made("anna", "notes", 0, l("e"), l("a", "b", "c", "d")), true},
		{made("anna", "notes", 0, l("a", "b", "c", "d", "e", "f"), nil), false},
		{made("anna", "notes", 0, nil, l("a", "b", "c", "d", "e", "f")), false},
		{made("anna", "notes", 0, l("a", "b", "c"), l("d", "e", "f")), false},
		{made("anna", "notes", 0, l("z", "\u00df"), nil), true}, // by bytes, not by an alphabet
		{made("anna", "notes", 0, l("\u00df", "z"), nil), false},
		{made("anna", "notes", 0, l("b", "bb"), l("a", "ba")), true},
		{made("anna", "notes", 0, l("bb", "b"), nil), false},
		{made("anna", "notes", 0, l("b", "a", "c"), nil), false},
		{made("anna", "notes", 0, nil, l("a", "c", "b")), false},
		{made("anna", "notes", 0, l("b", "b"), nil), false},
		{made("anna", "notes", 0, nil, l("b", "b")), false},
		{made("anna", "notes", 0, l("b"), l("b")), false},
		{made("anna", "notes", 0, l("a", "c"), l("b", "c", "d")), false},
		{made("anna", "notes", 0, l("anna"), nil), false},
		{made("anna", "notes", 0, nil, l("ann", "anna", "annb")), false},
		{made("anna", "notes", 0, l(""), nil), false},
		{made("anna", "notes", 0, nil, l("B", "b")), false},
	} {
		if rights.Right(c.r) != c.want || oughtRight(c.r) != c.want {
			t.Errorf("%d: %s: not %v", i, show(c.r), c.want)
		}
	}
}

// G1: all that is handed in, as the words say.
func TestRightAsItOughtToBe(t *testing.T) {
	for _, r := range all() {
		if got := rights.Right(r); got != oughtRight(r) {
			t.Errorf("%s: %v", show(r), got)
		}
	}
	for _, r := range some() {
		if !rights.Right(r) {
			t.Errorf("%s is not right", show(r))
		}
	}
	for _, r := range wrong() {
		if rights.Right(r) {
			t.Errorf("%s is right", show(r))
		}
	}
}

// G1: rights of a new file, of names and of what is none.
func TestNew(t *testing.T) {
	r, e := rights.New("anna", "notes")
	if !same(r, made("anna", "notes", 0, nil, nil)) || e != api.OK {
		t.Error(show(r), e)
	}
	for _, owner := range users() {
		for _, file := range users() {
			want, e := oughtNew(owner, file)
			if r, f := rights.New(owner, file); !same(r, want) || f != e || rights.Right(r) != (e == api.OK) {
				t.Errorf("New(%.40q, %.40q): %s, %v", owner, file, show(r), f)
			}
		}
	}
}

// G1: who can do what, written out.
func TestCan(t *testing.T) {
	r := made("anna", "notes", 3, []string{"ben", "dora"}, []string{"cy"})
	for user, want := range map[string][2]bool{
		"anna": {true, true}, "ben": {true, false}, "cy": {true, true}, "dora": {true, false},
		"notes": {}, "": {}, "Ben": {}, "be": {}, "bena": {}, "c": {}, "z": {}, "anna/notes": {},
	} {
		for i, write := range []bool{false, true} {
			if rights.Can(r, user, write) != want[i] {
				t.Errorf("%q, write %v: not %v", user, write, want[i])
			}
		}
	}
}

// G1: nobody can do anything with rights that are not right, not even their owner.
func TestNobodyCanOfWrongRights(t *testing.T) {
	for _, r := range wrong() {
		for _, user := range append(others(r), r.Owner, "ben", "") {
			if rights.Can(r, user, false) || rights.Can(r, user, true) {
				t.Errorf("%.40q can, of %s", user, show(r))
			}
		}
	}
}

// G1: each user, of all that is handed in, as the words say.
func TestCanAsItOughtToBe(t *testing.T) {
	for _, r := range all() {
		for _, user := range users() {
			for _, write := range []bool{false, true} {
				if got := rights.Can(r, user, write); got != oughtCan(r, user, write) {
					t.Errorf("Can(%s, %.40q, %v): %v", show(r), user, write, got)
				}
			}
		}
	}
}
