package rights_test

import (
	"testing"

	"letterlock/api"
	"letterlock/rights"
)

// dice rolls the same numbers each time.
type dice struct{ n uint64 }

func (d *dice) roll(below int) int {
	d.n = d.n*6364136223846793005 + 1442695040888963407
	return int(d.n>>33) % below
}

// power is what each user can do: read, and write.
func power(r api.Rights) map[string][2]bool {
	m := map[string][2]bool{}
	for _, user := range users() {
		m[user] = [2]bool{rights.Can(r, user, false), rights.Can(r, user, true)}
	}
	return m
}

// changed holds what each user can do after a step against what it could ahead of it.
func changed(t *testing.T, s step, before, after api.Rights) {
	t.Helper()
	was, is := power(before), power(after)
	for user, could := range was {
		want := could
		if user == s.user {
			want = [2]bool{s.grant, s.grant && s.write}
		}
		if is[user] != want {
			t.Errorf("%s, %v: %.40q can %v, not %v", show(before), s, user, is[user], want)
		}
	}
	epoch := before.Epoch
	if !s.grant {
		epoch++
	}
	if after.Epoch != epoch || after.Owner != before.Owner || after.File != before.File {
		t.Errorf("%s, %v: %s", show(before), s, show(after))
	}
}

// G4: who was granted can, who was revoked cannot, and all others can what they could.
func TestWhatAChangeChanges(t *testing.T) {
	for _, r := range eachWay(3) {
		for _, user := range append([]string{"m", "anna"}, known...) {
			for _, s := range []step{{user, true, false}, {user, true, true}, {user: user}} {
				if next, e := s.take(r); e == api.OK {
					changed(t, s, r, next)
				}
			}
		}
	}
}

// G4: long walks, made by dice: each change changes what it must, rights stay right, and are put and taken at each step.
func TestWalks(t *testing.T) {
	d, names := &dice{7}, users()
	grants, revokes := 0, 0
	for range 200 {
		r, e := rights.New("anna", "notes")
		if e != api.OK {
			t.Fatal(e)
		}
		for range 60 {
			s := step{names[d.roll(len(names))], d.roll(3) > 0, d.roll(2) > 0}
			next, e := s.take(r)
			want, f := s.ought(r)
			if !same(next, want) || e != f {
				t.Fatalf("%s, %v: %s, %v", show(r), s, show(next), e)
			}
			if e != api.OK {
				continue
			}
			changed(t, s, r, next)
			if !rights.Right(next) {
				t.Fatalf("%s is not right", show(next))
			}
			put, e := rights.Put(next)
			if e != api.OK {
				t.Fatal(e)
			}
			taken(t, put, next, api.OK)
			if s.grant {
				grants++
			} else {
				revokes++
			}
			r = next
		}
	}
	if grants < 1000 || revokes < 400 {
		t.Errorf("only %d grants, %d revokes", grants, revokes)
	}
}

// G4: who is granted and revoked leaves the others as they were, and an epoch behind.
func TestGrantAndRevoke(t *testing.T) {
	for _, r := range eachWay(6) {
		for _, write := range []bool{false, true} {
			given, e := rights.Grant(r, "m", write)
			if e != api.OK {
				continue
			}
			back, e := rights.Revoke(given, "m")
			want := apartFrom(r)
			want.Epoch = 7
			if !same(back, want) || e != api.OK {
				t.Errorf("%s: %s, %v", show(r), show(back), e)
			}
		}
	}
}
