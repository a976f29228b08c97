package reader_test

import (
	"slices"
	"strings"
	"testing"

	"letterlock/api"
	"letterlock/meta"
	"letterlock/owner"
	"letterlock/reader"
	"letterlock/user"
)

// P1: great texts and lists are refused, or left, and each call ends soon.
func TestGreatInputs(t *testing.T) {
	long := strings.Repeat("h", 1<<22)
	many := slices.Repeat([]string{long}, 1<<20)
	blob := blobs(t, owns(t, "anna", 3), 9)[1]
	for _, change := range []struct {
		f func(a *asked)
		e api.Errno
	}{
		{func(a *asked) { a.blob = long }, api.ErrForm}, {func(a *asked) { a.blob += long }, api.ErrForm}, {func(a *asked) { a.blob = row(long, long, long, long) }, api.ErrForm},
		{func(a *asked) { a.public = long }, api.ErrArg}, {func(a *asked) { a.owner = long }, api.ErrName}, {func(a *asked) { a.file = long }, api.ErrName},
	} {
		a := fair(t, blob)
		change.f(&a)
		checks(t, a, change.e)
	}
	for i, change := range []func(o *user.Owned){
		func(o *user.Owned) { o.Root = long }, func(o *user.Owned) { o.Signers = many }, func(o *user.Owned) { o.Signers[1] = long }, func(o *user.Owned) { o.Rights.Readers = many }, func(o *user.Owned) { o.Rights.File = long }, func(o *user.Owned) { o.Rights.Epoch = 1<<63 - 1 }, func(o *user.Owned) { o.Rights.Epoch, o.Signers = 1<<20-1, many },
	} {
		o := someOwned()
		change(&o)
		if _, e := owned(t, o); e != api.ErrArg {
			t.Errorf("%d: %v", i, e)
		}
	}
	for i, change := range []func(m *meta.Meta){
		func(m *meta.Meta) { m.Sig = long }, func(m *meta.Meta) { m.Verify = many }, func(m *meta.Meta) { m.Verify[0] = long }, func(m *meta.Meta) { m.Blocks[0].Box = long }, func(m *meta.Meta) { m.Blocks = slices.Repeat(m.Blocks, 1<<20) },
	} {
		m := someMeta()
		change(&m)
		if _, e := reader.KeysOf(m, "ben", "a\x01\x05"); e != api.ErrArg {
			t.Errorf("%d: %v", i, e)
		}
	}
	if _, e := keyed(t, someMeta(), long, "a\x01\x05"); e != api.ErrDenied {
		t.Error(e)
	}
	if _, e := keyed(t, someMeta(), "ben", long); e != api.ErrArg {
		t.Error(e)
	}
	k := keysAt(t, 1)
	for i, c := range []struct {
		change func(k *reader.Keys)
		e      api.Errno
	}{
		{func(k *reader.Keys) { k.State = long }, api.ErrArg}, {func(k *reader.Keys) { k.Verify = many }, api.ErrArg}, {func(k *reader.Keys) { k.Epoch, k.Verify = 1<<20-1, many }, api.ErrArg}, {func(k *reader.Keys) { k.Verify = many[:2] }, api.ErrSig}, {func(k *reader.Keys) { k.Path = long }, api.ErrSig}, {func(k *reader.Keys) { k.Signer = long }, api.OK},
	} {
		other := k
		c.change(&other)
		if _, e := opened(t, other, written(t, k, "hi")); e != c.e {
			t.Errorf("%d: %v, not %v", i, e, c.e)
		}
	}
	if _, e := opened(t, k, long); e != api.ErrForm {
		t.Error(e)
	}
}

// P2: with each error all else is nothing.
func TestNothingBesideErrors(t *testing.T) {
	for many := range 4 {
		for _, change := range changes() {
			for _, blob := range blobs(t, owns(t, "anna", many), 9) {
				x, a := taken(t, blob), fair(t, blob)
				change(&x)
				a.blob = putAs(x, "", secretOf("anna"))
				if m, e := checked(t, a); e != api.OK && !same(m, meta.Meta{}) {
					t.Fatalf("%s, %v", show(m), e)
				}
			}
		}
	}
	for _, change := range metaChanges() {
		m := apart(someMeta())
		change(&m)
		if k, e := keyed(t, m, "ben", "a\x01\x05"); e != api.OK && !alike(k, reader.Keys{}) {
			t.Fatalf("%s, %v", show(k), e)
		}
	}
	for _, change := range keyChanges() {
		k := keysAt(t, 3)
		s := written(t, k, "hi")
		change(&k)
		if got, e := opened(t, k, s); e != api.OK && got != "" {
			t.Fatalf("%q, %v", got, e)
		}
	}
}

// spoil writes over all of a list, and over what lies behind its length.
func spoil(l []string) {
	l = l[:cap(l)]
	for i := range l {
		l[i] = "other"
	}
}

// spoilMeta writes over all lists of a meta.
func spoilMeta(m meta.Meta) {
	spoil(m.Verify)
	spoil(m.Rights.Readers)
	spoil(m.Rights.Writers)
	for i := range m.Blocks[:cap(m.Blocks)] {
		m.Blocks[:cap(m.Blocks)][i] = meta.Block{User: "other"}
	}
}

// P3: what is trusted is new, each list of it its own.
func TestTrustedMetasAreNew(t *testing.T) {
	for _, blob := range blobs(t, owns(t, "anna", 8), 9) {
		a := fair(t, blob)
		m, e := checked(t, a)
		must(t, e)
		kept := apart(m)
		for i, l := range []*[]string{&m.Verify, &m.Rights.Readers, &m.Rights.Writers} {
			spoil(*l)
			*l = *[]*[]string{&kept.Verify, &kept.Rights.Readers, &kept.Rights.Writers}[i]
			if !same(m, kept) {
				t.Fatal("one list is written into by way of another")
			}
		}
		m, e = checked(t, a)
		must(t, e)
		spoilMeta(m)
		if m, e = checked(t, a); !same(m, kept) || e != api.OK {
			t.Fatalf("%s, %v, not %s", show(m), e, show(kept))
		}
	}
}

// P3: keys are new, and what they are made of is neither written into nor kept.
func TestKeysAreNew(t *testing.T) {
	for epoch := range 8 {
		m, o := someMeta(), someOwned()
		m.Rights.Epoch, m.Verify = epoch, slices.Repeat([]string{"ua\x01\x0a"}, epoch+1)
		o.Rights.Epoch, o.Signers = epoch, slices.Repeat([]string{"a\x01\x0a"}, epoch+1)
		wantOf, _ := oughtKeysOf(apart(m), "ben", "a\x01\x05")
		wantOwn, _ := oughtOwnKeys(o)
		keptMeta, keptSigners := apart(m), slices.Clone(o.Signers)
		for range 3 {
			k, e := keyed(t, m, "ben", "a\x01\x05")
			l, f := owned(t, o)
			must(t, e, f)
			spoil(k.Verify)
			spoil(l.Verify)
			if !same(m, keptMeta) || !slices.Equal(o.Signers, keptSigners) {
				t.Fatalf("%s, %s", show(m), show(o))
			}
		}
		k, _ := reader.KeysOf(m, "ben", "a\x01\x05")
		l, _ := reader.OwnKeys(o)
		spoilMeta(m)
		spoil(o.Signers)
		if !alike(k, wantOf) || !alike(l, wantOwn) {
			t.Fatalf("%s, %s", show(k), show(l))
		}
	}
}

// P3: what lies behind a list's length is neither read nor written; keys that are handed in are left.
func TestInputsAreLeft(t *testing.T) {
	all := []string{"a\x01\x0a", "a\x01\x0b", "x", "", "a\x00"}
	for length := range len(all) + 1 {
		o, whole := someOwned(), slices.Clone(all)
		o.Signers = whole[:length]
		_, e := owned(t, o)
		if (e == api.OK) != (length == 2) || !slices.Equal(whole, all) {
			t.Errorf("%d: %v, %q", length, e, whole)
		}
		m, publics := someMeta(), []string{"ua\x01\x0a", "ua\x01\x0b", "x", "", "ua\x00"}
		m.Verify = publics[:length]
		_, e = keyed(t, m, "ben", "a\x01\x05")
		if (e == api.OK) != (length == 2) || !slices.Equal(publics, []string{"ua\x01\x0a", "ua\x01\x0b", "x", "", "ua\x00"}) {
			t.Errorf("%d: %v, %q", length, e, publics)
		}
	}
	for epoch := range 8 {
		k := keysAt(t, epoch)
		s := written(t, k, "hi")
		whole := append(slices.Clone(k.Verify), "ua\x00", "x")
		kept := slices.Clone(whole)
		k.Verify = whole[:epoch+1]
		if _, e := opened(t, k, s); e != api.OK || !slices.Equal(whole, kept) {
			t.Errorf("%d: %v, %q", epoch, e, whole)
		}
		k.Verify = whole[:epoch]
		if _, e := opened(t, k, s); e != api.ErrArg {
			t.Errorf("%d: %v", epoch, e)
		}
	}
}

// P4: the same is told again, whatever was asked between.
func TestTheSameAgain(t *testing.T) {
	u, d := newUser(t, "anna", 5), &dice{4}
	var all []asked
	for i := range 40 {
		step(u, d)
		ops, e := owner.Plan(u, "", uint64(i), everybody())
		if e != api.OK {
			continue
		}
		for at, o := range ops {
			all = append(all, asked{o.Blob, u.Public(), "anna", u.Files()[at], 20, uint64(i)})
		}
	}
	told := func() (l []any) {
		for i, a := range all {
			m, e := a.check()
			k, f := reader.KeysOf(m, names()[i%17], secretOf(names()[i%17]))
			l = append(l, show(m), e, show(k), f)
		}
		return l
	}
	first := told()
	for range 3 {
		d.roll(2)
		for range 50 {
			a := all[d.roll(len(all))]
			a.blob = a.blob[d.roll(len(a.blob)):]
			a.check()
		}
		if !slices.Equal(told(), first) {
			t.Fatal("the same is told otherwise")
		}
	}
}

// P4: what two owners do does not mix: what one puts is nothing to what is trusted of the other one, though both have files of the same names.
func TestOwnersDoNotMix(t *testing.T) {
	u, v := newUser(t, "anna", 5), newUser(t, "ben", 5)
	d := &dice{7}
	for range 60 {
		before := blobs(t, u, 9)
		step(v, d)
		ops, e := owner.Plan(v, "", 9, everybody())
		if e == api.OK {
			for i, o := range ops {
				checks(t, asked{o.Blob, v.Public(), "ben", v.Files()[i], 9, 0}, api.OK)
				checks(t, asked{o.Blob, v.Public(), "anna", v.Files()[i], 9, 0}, api.ErrName)
				checks(t, asked{o.Blob, u.Public(), "anna", v.Files()[i], 9, 0}, api.ErrSig)
			}
		}
		if !slices.Equal(before, blobs(t, u, 9)) {
			t.Fatal("what one does is seen by the other one")
		}
		if len(u.Files()) < 5 {
			step(u, d)
		}
		for i, blob := range before {
			m, e := checked(t, asked{blob, u.Public(), "anna", taken(t, blob).Meta.Rights.File, 9, 0})
			if e != api.OK || m.Rights.Owner != "anna" {
				t.Fatalf("%d: %v", i, e)
			}
		}
	}
}
