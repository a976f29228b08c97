package rights_test

import (
	"fmt"
	"testing"

	"letterlock/api"
	"letterlock/rights"
)

// step is a change of rights, by one of both calls.
type step struct {
	user         string
	grant, write bool
}

func (s step) String() string {
	return fmt.Sprintf("{%.40q grant %v write %v}", s.user, s.grant, s.write)
}

func (s step) take(r api.Rights) (api.Rights, api.Errno) {
	if s.grant {
		return rights.Grant(r, s.user, s.write)
	}
	return rights.Revoke(r, s.user)
}

func (s step) ought(r api.Rights) (api.Rights, api.Errno) {
	if s.grant {
		return oughtGrant(r, s.user, s.write)
	}
	return oughtRevoke(r, s.user)
}

// eachStep is each change, with each user.
func eachStep() []step {
	var l []step
	for _, user := range users() {
		l = append(l, step{user, true, false}, step{user, true, true}, step{user: user})
	}
	return l
}

// G2: one change after the other, written out.
func TestChanges(t *testing.T) {
	l := func(names ...string) []string { return names }
	r := made("anna", "notes", 0, nil, nil)
	for i, c := range []struct {
		step
		epoch            int
		readers, writers []string
	}{
		{step{"dora", true, false}, 0, l("dora"), nil},
		{step{"ben", true, false}, 0, l("ben", "dora"), nil},
		{step{"z", true, true}, 0, l("ben", "dora"), l("z")},
		{step{"cy", true, false}, 0, l("ben", "cy", "dora"), l("z")},
		{step{"\u00df", true, true}, 0, l("ben", "cy", "dora"), l("z", "\u00df")},
		{step{"cy", false, false}, 1, l("ben", "dora"), l("z", "\u00df")},
		{step{"z", false, true}, 2, l("ben", "dora"), l("\u00df")},
		{step{"cy", true, true}, 2, l("ben", "dora"), l("cy", "\u00df")},
		{step{"ben", false, false}, 3, l("dora"), l("cy", "\u00df")},
		{step{"ben", true, true}, 3, l("dora"), l("ben", "cy", "\u00df")},
		{step{"dora", false, false}, 4, nil, l("ben", "cy", "\u00df")},
		{step{"\u00df", false, false}, 5, nil, l("ben", "cy")},
		{step{"ben", false, false}, 6, nil, l("cy")},
		{step{"cy", false, false}, 7, nil, nil},
		{step{"cy", true, false}, 7, l("cy"), nil},
	} {
		next, e := c.take(r)
		if !same(next, made("anna", "notes", c.epoch, c.readers, c.writers)) || e != api.OK {
			t.Fatalf("%d: %s, %v", i, show(next), e)
		}
		r = next
	}
}

// G2: the errors, and which of several is told, written out.
func TestErrorsOfChanges(t *testing.T) {
	l := func(names ...string) []string { return names }
	few := made("anna", "notes", 0, l("ben"), l("cy"))
	full := made("anna", "notes", 7, l("b", "d"), l("a", "c", "e"))
	broken := made("anna", "notes", 8, l("b", "d"), l("a", "c", "e"))
	for i, c := range []struct {
		r    api.Rights
		user string
		want [3]api.Errno // of Grant to read, of Grant to write, of Revoke
	}{
		{broken, "", [3]api.Errno{api.ErrArg, api.ErrArg, api.ErrArg}},
		{broken, "a", [3]api.Errno{api.ErrArg, api.ErrArg, api.ErrArg}},
		{broken, "f", [3]api.Errno{api.ErrArg, api.ErrArg, api.ErrArg}},
		{api.Rights{}, "f", [3]api.Errno{api.ErrArg, api.ErrArg, api.ErrArg}},
		{few, "", [3]api.Errno{api.ErrName, api.ErrName, api.ErrName}},
		{few, "Ben", [3]api.Errno{api.ErrName, api.ErrName, api.ErrName}},
		{few, "anna", [3]api.Errno{api.ErrThere, api.ErrThere, api.ErrNone}},
		{few, "ben", [3]api.Errno{api.ErrThere, api.ErrThere, api.OK}},
		{few, "cy", [3]api.Errno{api.ErrThere, api.ErrThere, api.OK}},
		{few, "dora", [3]api.Errno{api.OK, api.OK, api.ErrNone}},
		{few, "notes", [3]api.Errno{api.OK, api.OK, api.ErrNone}},
		{full, "F", [3]api.Errno{api.ErrName, api.ErrName, api.ErrName}},
		{full, "anna", [3]api.Errno{api.ErrThere, api.ErrThere, api.ErrNone}},
		{full, "b", [3]api.Errno{api.ErrThere, api.ErrThere, api.ErrChain}},
		{full, "e", [3]api.Errno{api.ErrThere, api.ErrThere, api.ErrChain}},
		{full, "f", [3]api.Errno{api.ErrBig, api.ErrBig, api.ErrNone}},
	} {
		for j, s := range []step{{c.user, true, false}, {c.user, true, true}, {user: c.user}} {
			if r, e := s.take(c.r); e != c.want[j] || e != api.OK && !same(r, api.Rights{}) {
				t.Errorf("%d, %d: %s, %v", i, j, show(r), e)
			}
		}
	}
}

// G2: each change of all that is handed in, with each user, as the words say.
func TestChangesAsTheyOughtToBe(t *testing.T) {
	steps := eachStep()
	for _, r := range all() {
		for _, s := range steps {
			want, e := s.ought(r)
			if got, f := s.take(r); !same(got, want) || f != e {
				t.Errorf("%s, %v: %s, %v; not %s, %v", show(r), s, show(got), f, show(want), e)
			}
		}
	}
}
