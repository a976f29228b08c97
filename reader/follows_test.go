package reader_test

import (
	"slices"
	"strings"
	"testing"

	"letterlock/api"
	"letterlock/meta"
	"letterlock/owner"
	"letterlock/reader"
	"letterlock/rights"
	"letterlock/user"
)

// shared holds what is trusted of one of a user's files against what follows: whom the file is shared with has the owner's keys, and nobody else any.
func shared(t *testing.T, u *user.User, m meta.Meta) {
	t.Helper()
	own, e := owned(t, held(t, u, m.Rights.File))
	must(t, e)
	if u.Name()+"/"+m.Rights.File != own.Path || len(own.Verify) != own.Epoch+1 || own.Signer == "" {
		t.Fatal(show(own))
	}
	for _, n := range names() {
		k, e := keyed(t, m, n, secretOf(n))
		want, wantError := own, api.OK
		if !rights.Can(m.Rights, n, true) {
			want.Signer = ""
		}
		if n == u.Name() || !rights.Can(m.Rights, n, false) {
			want, wantError = reader.Keys{}, api.ErrDenied
		}
		if !alike(k, want) || e != wantError {
			t.Fatalf("%q: %s, %v, not %s, %v", n, show(k), e, show(want), wantError)
		}
		if _, e := keyed(t, m, n, secretOf("other")); e == api.OK {
			t.Fatalf("%q: somebody else has its keys", n)
		}
	}
}

// P4: what was put lately is trusted, from then on for as long as the bound, and gives each other user the owner's keys, in walks of all that a user does.
func TestWhatWasPutIsTrusted(t *testing.T) {
	for seed := range uint64(12) {
		u, d := newUser(t, "anna", seed), &dice{seed}
		most, many := 0, 0
		for i := range 60 {
			step(u, d)
			time, bound := uint64(i)<<(4*seed), uint64(i%7)
			ops, e := owner.Plan(u, "", time, everybody())
			if e == api.ErrBig { // a meta of many others, and many epochs
				continue
			}
			must(t, e)
			most, many = max(most, len(ops)), many+1
			for at, o := range ops {
				a := asked{o.Blob, u.Public(), "anna", u.Files()[at], time, bound}
				m, e := checked(t, a)
				must(t, e)
				if m.Version != held(t, u, a.file).Version {
					t.Fatal(show(m))
				}
				shared(t, u, m)
				for late, want := range map[uint64]api.Errno{bound: api.OK, bound + 1: api.ErrStale, 1<<64 - 1: api.ErrStale} {
					a.now = time + late
					checks(t, a, want)
				}
			}
		}
		if most < 3 || many < 40 {
			t.Errorf("%d: %d plans of at most %d files", seed, many, most)
		}
	}
}

// P4: spoilt in any one byte, cut short, or made longer, nothing is trusted.
func TestWhatIsSpoiltIsNotTrusted(t *testing.T) {
	u := owns(t, "anna", 3)
	for _, blob := range blobs(t, u, 9) {
		a := fair(t, blob)
		checks(t, a, api.OK)
		not := func(s string) {
			t.Helper()
			b := a
			b.blob, b.bound = s, 1<<63
			if m, e := b.check(); e == api.OK || !same(m, meta.Meta{}) {
				t.Fatalf("%q: %s, %v", s, show(m), e)
			}
		}
		for i := range len(blob) {
			not(blob[:i])
			not(blob[:i] + blob[i+1:])
			not(blob[:i] + "\x00" + blob[i:])
			for _, change := range []byte{1, 2, 128, 255} {
				not(blob[:i] + string([]byte{blob[i] ^ change}) + blob[i+1:])
			}
		}
		for _, more := range []string{"\x00", "x", blob} {
			not(blob + more)
			not(more + blob)
		}
	}
}

// P4: a version that is not the newest one is trusted for as long as the bound, and not behind that, whatever is laid together of what was ever put.
func TestWhatIsOldIsNotTrusted(t *testing.T) {
	const bound = 3
	u := newUser(t, "anna", 5)
	must(t, u.Create("bills"), u.Create("notes"), u.Create("z"))
	version := map[uint64]uint64{}
	var all []string
	for time := range uint64(10) {
		if time%2 == 0 {
			must(t, u.Grant("notes", "ben", true))
		} else {
			must(t, u.Revoke("notes", "ben"))
		}
		version[time] = held(t, u, "notes").Version
		all = append(all, blobs(t, u, time)...)
		trusts := 0
		for _, first := range all {
			for _, rest := range all {
				x, y := taken(t, first), taken(t, rest)
				x.Stamp, x.At, x.Proof = y.Stamp, y.At, y.Proof
				m, e := asked{putAs(x, "", ""), u.Public(), "anna", "notes", time, bound}.check()
				if e != api.OK {
					continue
				}
				trusts++
				if m.Version < version[max(time, bound)-bound] || m.Version > version[time] {
					t.Fatalf("at %d version %d is trusted", time, m.Version)
				}
			}
		}
		if trusts != int(min(time, bound))+1 {
			t.Errorf("%d: %d", time, trusts)
		}
	}
}

// P4: who is none of a file's, but has a secret of its own, can make nothing that is trusted of it.
func TestWhatOthersSignIsNotTrusted(t *testing.T) {
	u, v := owns(t, "anna", 4), owns(t, "b-1", 4)
	for i, blob := range blobs(t, u, 9) {
		a := fair(t, blob)
		x, y := taken(t, blob), taken(t, blobs(t, v, 9)[i])
		for _, n := range names() {
			if n == "anna" {
				continue
			}
			for _, ways := range [][2]string{{secretOf(n), ""}, {"", secretOf(n)}, {secretOf(n), secretOf(n)}} {
				a.blob = putAs(x, ways[0], ways[1])
				checks(t, a, api.ErrSig)
				z := y
				z.Stamp.Owner, z.Meta.Rights.Owner = "anna", "anna"
				a.blob = putAs(z, ways[0], ways[1])
				checks(t, a, api.ErrSig)
			}
		}
		a.blob = putAs(y, "", "")
		checks(t, a, api.ErrSig)
	}
}

// P4: who may write writes what all who may read open; who is revoked opens what was written ahead, and nothing of what is written then.
func TestWhatIsWrittenIsRead(t *testing.T) {
	u := newUser(t, "anna", 5)
	must(t, u.Create("notes"), u.Grant("notes", "ben", true), u.Grant("notes", "cy", false), u.Grant("notes", "dora", false))
	keys := func(who string) (reader.Keys, api.Errno) {
		m, e := checked(t, asked{blobs(t, u, 9)[0], u.Public(), "anna", "notes", 9, 0})
		must(t, e)
		return keyed(t, m, who, secretOf(who))
	}
	all := map[string]reader.Keys{}
	for _, who := range []string{"ben", "cy", "dora"} {
		k, e := keys(who)
		must(t, e)
		all[who] = k
	}
	if all["cy"].Signer != "" || all["dora"].Signer != "" {
		t.Error("a reader signs")
	}
	first := written(t, all["ben"], "first")
	must(t, u.Revoke("notes", "dora"))
	if k, e := keys("dora"); e != api.ErrDenied || k.State != "" {
		t.Error(e)
	}
	ben, e := keys("ben")
	must(t, e)
	cy, e := keys("cy")
	must(t, e)
	own, e := owned(t, held(t, u, "notes"))
	must(t, e)
	second := written(t, ben, "second")
	for i, c := range []struct {
		k              reader.Keys
		blob, contents string
		e              api.Errno
	}{
		{all["ben"], first, "first", api.OK}, {all["cy"], first, "first", api.OK}, {all["dora"], first, "first", api.OK},
		{ben, first, "first", api.OK}, {cy, first, "first", api.OK}, {own, first, "first", api.OK},
		{ben, second, "second", api.OK}, {cy, second, "second", api.OK}, {own, second, "second", api.OK},
		{all["dora"], second, "", api.ErrSig}, {all["cy"], second, "", api.ErrSig}, {all["ben"], second, "", api.ErrSig},
	} {
		if s, e := opened(t, c.k, c.blob); s != c.contents || e != c.e {
			t.Errorf("%d: %q, %v", i, s, e)
		}
	}
	// the newest terms that verify, with the state of before, open nothing that is new
	k := ben
	k.State = all["dora"].State
	if _, e := opened(t, k, second); e != api.ErrSig {
		t.Error(e)
	}
	if slices.ContainsFunc([]string{all["cy"].State, all["dora"].State}, func(s string) bool { return s != strings.Repeat("h", 7)+held(t, u, "notes").Root }) {
		t.Error("readers' states are not the first epoch's")
	}
}
