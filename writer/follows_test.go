package writer_test

import (
	"slices"
	"testing"

	"letterlock/api"
	"letterlock/closure"
	"letterlock/data"
	"letterlock/meta"
	"letterlock/reader"
	"letterlock/user"
)

// others are who is beside the owner, each with the public term that it is known by.
func others(t *testing.T) (map[string]*user.User, []meta.Known) {
	t.Helper()
	all := map[string]*user.User{}
	var known []meta.Known
	for i, n := range []string{"ben", "cy", "dora", "eve", "\u044f"} {
		u, e := user.New(n, uint64(i+20))
		must(t, e)
		all[n] = u
		known = append(known, meta.Known{Name: n, Public: u.Public()})
	}
	return all, known
}

// keysNow are the keys of a file that its owner, and each other one who has a right to it, have now.
func keysNow(t *testing.T, u *user.User, all map[string]*user.User, known []meta.Known) map[string]reader.Keys {
	t.Helper()
	o, e := u.Own("notes")
	must(t, e)
	own, e := reader.OwnKeys(o)
	must(t, e)
	l := map[string]reader.Keys{u.Name(): own}
	m, e := u.Meta("notes", known)
	must(t, e)
	for n, who := range all {
		if k, e := reader.KeysOf(m, n, who.Secret()); e == api.OK {
			l[n] = k
		}
	}
	return l
}

// opens holds what is opened with keys against what is written out.
func opens(t *testing.T, k reader.Keys, blob, want string, wantError api.Errno) {
	t.Helper()
	if s, e := reader.Open(k, blob); s != want || e != wantError {
		t.Fatalf("Open(%s, %s): %q, %v, not %q, %v", show(k), show(blob), s, e, want, wantError)
	}
}

// Q4: what is sealed with keys of an epoch is opened with those, and with those of a later epoch, and not with those of an earlier one.
func TestWhoOpensWhatIsSealed(t *testing.T) {
	for of := range lastEpoch + 1 {
		for _, path := range paths {
			for _, contents := range someContents {
				k := keysAt(of)
				k.Path = path
				s := written(t, k, contents)
				for epoch := range lastEpoch + 1 {
					with, want, wantError := looksAt(epoch), contents, api.OK
					with.Path = path
					if epoch < of {
						want, wantError = "", api.ErrSig
					}
					opens(t, with, s, want, wantError)
					with.Path = "anna/bills"
					opens(t, with, s, "", api.ErrSig)
				}
			}
		}
	}
}

// Q4: what is renewed has the same contents, and is not behind; who has only earlier keys opens it no more.
func TestWhatIsRenewed(t *testing.T) {
	for of := range lastEpoch + 1 {
		for _, contents := range someContents {
			s := written(t, keysAt(of), contents)
			for epoch := of; epoch <= lastEpoch; epoch++ {
				anew, changed, e := renewed(t, keysAt(epoch), s)
				if e != api.OK || changed != (epoch > of) || isBehind(t, keysAt(epoch), anew) {
					t.Fatalf("%d, %d: %v, %v", of, epoch, changed, e)
				}
				b, e := data.Take(anew)
				if e != api.OK || b.Epoch != epoch {
					t.Fatalf("%d, %d: %s", of, epoch, show(b))
				}
				for with := range lastEpoch + 1 {
					want, wantError := contents, api.OK
					if with < epoch {
						want, wantError = "", api.ErrSig
					}
					opens(t, keysAt(with), anew, want, wantError)
				}
				renews(t, keysAt(epoch), anew, anew, false, api.OK) // again: there is nothing to do
				renews(t, looksAt(epoch), anew, anew, false, api.OK)
			}
		}
	}
}

// Q4: step by step, or all at once, the same comes of what is renewed.
func TestRenewedStepByStep(t *testing.T) {
	first := written(t, keysAt(0), "hi")
	s := first
	for epoch := 1; epoch <= lastEpoch; epoch++ {
		once, _, e := renewed(t, keysAt(epoch), first)
		must(t, e)
		s, _, e = renewed(t, keysAt(epoch), s)
		must(t, e)
		if s != once || s != written(t, keysAt(epoch), "hi") {
			t.Fatalf("%d: %q, %q", epoch, s, once)
		}
	}
}

// change grants somebody a right, or takes it away, as it falls.
func change(t *testing.T, u *user.User, d *dice) {
	t.Helper()
	who := []string{"ben", "cy", "dora", "eve", "\u044f"}[d.roll(5)]
	o, e := u.Own("notes")
	must(t, e)
	switch e := u.Grant("notes", who, d.roll(2) == 0); {
	case e == api.OK:
	case e == api.ErrThere && (o.Rights.Epoch == lastEpoch || d.roll(3) > 0):
	case e == api.ErrThere:
		must(t, u.Revoke("notes", who))
	default:
		t.Fatal(e)
	}
}

// Q4: in walks of an owner who grants and revokes: who may write seals what all who may read then open; who was revoked ahead does not; what was written with older keys is renewed by who may write, and by nobody else.
func TestWalks(t *testing.T) {
	all, known := others(t)
	wrote, denied, shut := 0, 0, 0
	for seed := range uint64(20) {
		u, e := user.New("anna", seed)
		must(t, e, u.Create("notes"))
		d := &dice{seed}
		ever := map[string]reader.Keys{} // the last keys that each one had
		lying := ""
		for i := range 40 {
			change(t, u, d)
			now := keysNow(t, u, all, known)
			for n, k := range now {
				ever[n] = k
			}
			contents := string(rune('a' + i))
			for n, k := range now {
				s, e := sealed(t, k, contents)
				if k.Signer == "" {
					if e != api.ErrDenied {
						t.Fatalf("%s writes: %v", n, e)
					}
					denied++
					continue
				}
				must(t, e)
				wrote++
				for _, with := range now {
					opens(t, with, s, contents, api.OK)
				}
				for n, was := range ever {
					if _, has := now[n]; !has {
						opens(t, was, s, "", api.ErrSig)
						shut++
					}
				}
			}
			lying = keeps(t, now, lying, d)
		}
	}
	if wrote < 500 || denied < 200 || shut < 200 {
		t.Error(wrote, denied, shut)
	}
}

// keeps holds what lies there against what each one who may read tells of it, and answers what lies there then.
func keeps(t *testing.T, now map[string]reader.Keys, lying string, d *dice) string {
	t.Helper()
	own := now["anna"]
	if lying == "" {
		return written(t, own, "first")
	}
	opens(t, own, lying, "first", api.OK)
	behind, anew := isBehind(t, own, lying), lying
	for n, k := range now {
		s, changed, e := renewed(t, k, lying)
		switch {
		case isBehind(t, k, lying) != behind:
			t.Fatalf("%s: behind", n)
		case behind && k.Signer == "":
			if e != api.ErrDenied {
				t.Fatalf("%s renews: %v", n, e)
			}
		case e != api.OK || changed != behind || isBehind(t, own, s):
			t.Fatalf("%s: %v, %v", n, changed, e)
		default:
			opens(t, own, s, "first", api.OK)
			anew = s
		}
	}
	if d.roll(2) > 0 { // else it lies there for another while, and falls behind by some epochs
		return lying
	}
	return anew
}

// Q4: what is sealed, and renewed, tells nothing to who has no state of that epoch or of a later one, and nobody who has not the signer can make it.
func TestWhatIsSealedIsHidden(t *testing.T) {
	for epoch := 1; epoch <= lastEpoch; epoch++ {
		anew, _, e := renewed(t, keysAt(epoch), written(t, keysAt(epoch-1), "hi"))
		must(t, e)
		b, e := data.Take(anew)
		must(t, e)
		for with := range lastEpoch + 1 {
			held := append(keysAt(with).Verify, "a"+number(uint64(epoch)), b.Sealed, stateOf(with)) // an epoch is no secret
			had, e := closure.Apart(append(held, b.Sig))
			must(t, e)
			if opened := slices.Contains(had, "p"+text(here)+text("hi")); opened != (with >= epoch) {
				t.Errorf("%d, %d: %v", epoch, with, opened)
			}
			made, e := closure.Derives(held, b.Sig)
			must(t, e)
			signs, e := closure.Derives(append(held, signerOf(with)), b.Sig)
			must(t, e)
			if made || signs != (with == epoch) {
				t.Errorf("%d, %d: %v, %v", epoch, with, made, signs)
			}
		}
	}
}
