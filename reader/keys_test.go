package reader_test

import (
	"slices"
	"strings"
	"testing"

	"letterlock/api"
	"letterlock/meta"
	"letterlock/reader"
	"letterlock/user"
)

// keyed holds KeysOf against the words, and answers what it tells.
func keyed(t *testing.T, m meta.Meta, user, secret string) (reader.Keys, api.Errno) {
	t.Helper()
	want, wantError := oughtKeysOf(m, user, secret)
	k, e := reader.KeysOf(m, user, secret)
	if !alike(k, want) || e != wantError {
		t.Fatalf("KeysOf(%s, %.80q, %s): %s, %v, not %s, %v", show(m), user, show(secret), show(k), e, show(want), wantError)
	}
	return k, e
}

// owned holds OwnKeys against the words, and answers what it tells.
func owned(t *testing.T, o user.Owned) (reader.Keys, api.Errno) {
	t.Helper()
	want, wantError := oughtOwnKeys(o)
	k, e := reader.OwnKeys(o)
	if !alike(k, want) || e != wantError {
		t.Fatalf("OwnKeys(%s): %s, %v, not %s, %v", show(o), show(k), e, show(want), wantError)
	}
	return k, e
}

// someMeta is a right one that a writer, ben, and a reader, cy, have blocks of, by short secrets.
func someMeta() meta.Meta {
	return meta.Meta{
		Rights:  api.Rights{Owner: "anna", File: "notes", Epoch: 1, Readers: []string{"cy"}, Writers: []string{"ben"}},
		Version: 4, Verify: []string{"ua\x01\x0a", "ua\x01\x0b"},
		Blocks: []meta.Block{{User: "ben", Box: "bua\x01\x05pha\x01\x09a\x01\x0b"}, {User: "cy", Box: "bua\x01\x06pha\x01\x09t\x00"}},
		Sig:    "ga\x00t\x00",
	}
}

// someOwned is what could be held of the same file.
func someOwned() user.Owned {
	return user.Owned{Rights: someMeta().Rights, Version: 4, Root: "a\x01\x09", Signers: []string{"a\x01\x0a", "a\x01\x0b"}}
}

// P2: a user's keys, written out: a writer's, a reader's, and nobody's.
func TestKeysOf(t *testing.T) {
	m := someMeta()
	writer := reader.Keys{Path: "anna/notes", Epoch: 1, State: "ha\x01\x09", Signer: "a\x01\x0b", Verify: []string{"ua\x01\x0a", "ua\x01\x0b"}}
	looks := writer
	looks.Signer = ""
	for i, c := range []struct {
		user, secret string
		want         reader.Keys
		e            api.Errno
	}{
		{"ben", "a\x01\x05", writer, api.OK}, {"cy", "a\x01\x06", looks, api.OK},
		{"ben", "a\x01\x06", reader.Keys{}, api.ErrSig}, {"cy", "a\x01\x05", reader.Keys{}, api.ErrSig}, {"cy", "ua\x01\x06", reader.Keys{}, api.ErrSig}, {"cy", deep, reader.Keys{}, api.ErrSig}, {"cy", words(3996), reader.Keys{}, api.ErrSig},
		{"anna", "a\x00", reader.Keys{}, api.ErrDenied}, {"dora", "a\x01\x05", reader.Keys{}, api.ErrDenied}, {"", "a\x01\x05", reader.Keys{}, api.ErrDenied}, {"Ben", "a\x01\x05", reader.Keys{}, api.ErrDenied}, {"be", "a\x01\x05", reader.Keys{}, api.ErrDenied}, {"benn", "a\x01\x05", reader.Keys{}, api.ErrDenied},
		{"ben", "", reader.Keys{}, api.ErrArg}, {"ben", "x", reader.Keys{}, api.ErrArg}, {"ben", "a\x01\x05x", reader.Keys{}, api.ErrArg}, {"dora", "", reader.Keys{}, api.ErrArg},
	} {
		if k, e := keyed(t, m, c.user, c.secret); !alike(k, c.want) || e != c.e {
			t.Errorf("%d: %s, %v", i, show(k), e)
		}
	}
}

// P2: a meta that is not right gives nobody keys, whoever asks; its signature is not asked for here.
func TestKeysOfWrongMetas(t *testing.T) {
	wrong := 0
	for _, change := range metaChanges() {
		m := apart(someMeta())
		change(&m)
		for _, who := range append(names(), "") {
			for _, secret := range []string{"a\x01\x05", "a\x01\x06", "a\x00", "", deep} {
				if _, e := keyed(t, m, who, secret); e == api.ErrArg && secret != "" {
					wrong++
				}
			}
		}
	}
	if wrong < 1000 {
		t.Error(wrong)
	}
	m := someMeta()
	m.Sig = "ga\x01\x01t\x01\x01x"
	if _, e := keyed(t, m, "ben", "a\x01\x05"); e != api.OK {
		t.Error(e)
	}
}

// metaChanges are of each part of a meta.
func metaChanges() []func(m *meta.Meta) {
	var l []func(m *meta.Meta)
	change := func(f func(m *meta.Meta)) { l = append(l, f) }
	for _, n := range append(names(), noNames()...) {
		change(func(m *meta.Meta) { m.Rights.Owner = n })
		change(func(m *meta.Meta) { m.Rights.File = n })
		change(func(m *meta.Meta) { m.Rights.Readers[0] = n })
		change(func(m *meta.Meta) { m.Rights.Writers[0], m.Blocks[0].User = n, n })
	}
	for _, n := range numbers {
		change(func(m *meta.Meta) { m.Rights.Epoch = n })
		change(func(m *meta.Meta) { m.Version = uint64(n) })
	}
	for _, x := range terms() {
		change(func(m *meta.Meta) { m.Sig = x })
		change(func(m *meta.Meta) { m.Verify[1] = x })
		change(func(m *meta.Meta) { m.Verify[0] = x })
		change(func(m *meta.Meta) { m.Verify = append(m.Verify, x) })
		change(func(m *meta.Meta) { m.Blocks[0].Box = x })
		change(func(m *meta.Meta) { m.Blocks[1].Box = "bua\x01\x06" + x })
		for _, y := range rightTerms {
			change(func(m *meta.Meta) { m.Blocks[0].Box = "bua\x01\x05p" + x + y })
		}
	}
	change(func(m *meta.Meta) { m.Verify = nil })
	change(func(m *meta.Meta) { m.Verify = m.Verify[:1] })
	change(func(m *meta.Meta) { m.Blocks = m.Blocks[:1] })
	change(func(m *meta.Meta) { m.Blocks = nil })
	change(func(m *meta.Meta) { slices.Reverse(m.Blocks) })
	change(func(m *meta.Meta) { *m = meta.Meta{} })
	return l
}

// P2: what is boxed, of any terms: state and signer are told as they are, but that a text is no signer.
func TestKeysOfWhatIsBoxed(t *testing.T) {
	signed, not := 0, 0
	for _, state := range rightTerms {
		for _, signer := range rightTerms {
			m := someMeta()
			m.Blocks[1].Box = "bua\x01\x06p" + state + signer
			k, e := keyed(t, m, "cy", "a\x01\x06")
			switch {
			case !isTerm(m.Blocks[1].Box, "b"):
				if e != api.ErrArg {
					t.Error(e)
				}
			case signer[0] == 't':
				not++
				if k.State != state || k.Signer != "" || e != api.OK {
					t.Errorf("%s, %v", show(k), e)
				}
			default:
				signed++
				if k.State != state || k.Signer != signer || e != api.OK {
					t.Errorf("%s, %v", show(k), e)
				}
			}
		}
	}
	if signed < 80 || not < 20 {
		t.Error(signed, not)
	}
}

// P2: the owner's keys, written out, at each epoch.
func TestOwnKeys(t *testing.T) {
	for epoch := range 8 {
		o := user.Owned{Rights: api.Rights{Owner: "anna", File: "notes", Epoch: epoch}, Version: 99, Root: "a\x01\x09"}
		want := reader.Keys{Path: "anna/notes", Epoch: epoch, State: "hhhhhhh"[epoch:] + "a\x01\x09", Signer: "a\x01" + string([]byte{byte(20 + epoch)})}
		for i := range epoch + 1 {
			signer := "a\x01" + string([]byte{byte(20 + i)})
			o.Signers, want.Verify = append(o.Signers, signer), append(want.Verify, "u"+signer)
		}
		if k, e := owned(t, o); !alike(k, want) || e != api.OK {
			t.Errorf("%d: %s, %v, not %s", epoch, show(k), e, show(want))
		}
	}
}

// P2: owners' errors, written out, and what is no error.
func TestErrorsOfOwnKeys(t *testing.T) {
	almost := deep[1:] // its public term is right, and nothing of that
	for i, c := range []struct {
		change func(o *user.Owned)
		want   api.Errno
	}{
		{func(o *user.Owned) {}, api.OK},
		{func(o *user.Owned) { o.Gone = true }, api.ErrArg},
		{func(o *user.Owned) { o.Version = 0 }, api.OK},
		{func(o *user.Owned) { o.Rights.Owner = "Anna" }, api.ErrArg},
		{func(o *user.Owned) { o.Rights.Owner = "" }, api.ErrArg},
		{func(o *user.Owned) { o.Rights.File = "a/b" }, api.ErrArg},
		{func(o *user.Owned) { o.Rights.Readers = []string{"anna"} }, api.ErrArg},
		{func(o *user.Owned) { o.Rights.Readers = []string{"ben"} }, api.ErrArg}, // who is a writer, too
		{func(o *user.Owned) { o.Rights.Readers, o.Rights.Writers = nil, nil }, api.OK},
		{func(o *user.Owned) { o.Rights.Epoch = -1 }, api.ErrArg},
		{func(o *user.Owned) { o.Rights.Epoch, o.Signers = -1, nil }, api.ErrArg},
		{func(o *user.Owned) { o.Rights.Epoch, o.Signers = 8, slices.Repeat([]string{"a\x00"}, 9) }, api.ErrArg},
		{func(o *user.Owned) { o.Rights.Epoch, o.Signers = 7, slices.Repeat([]string{"a\x00"}, 8) }, api.OK},
		{func(o *user.Owned) { o.Rights.Epoch = 0 }, api.ErrArg},
		{func(o *user.Owned) { o.Rights.Epoch = 2 }, api.ErrArg},
		{func(o *user.Owned) { o.Signers = nil }, api.ErrArg},
		{func(o *user.Owned) { o.Signers = o.Signers[:1] }, api.ErrArg},
		{func(o *user.Owned) { o.Signers = append(o.Signers, "a\x00") }, api.ErrArg},
		{func(o *user.Owned) { o.Root = "" }, api.ErrArg},
		{func(o *user.Owned) { o.Root = "a\x01\x09x" }, api.ErrArg},
		{func(o *user.Owned) { o.Root = "h" + deep }, api.ErrArg},
		{func(o *user.Owned) { o.Root = deep }, api.ErrBig},
		{func(o *user.Owned) { o.Root = deep[5:] }, api.ErrBig},
		{func(o *user.Owned) { o.Root = deep[6:] }, api.OK},
		{func(o *user.Owned) { o.Root = words(3996) }, api.ErrBig},
		{func(o *user.Owned) { o.Root = words(3991) }, api.ErrBig},
		{func(o *user.Owned) { o.Root = words(3990) }, api.OK},
		{func(o *user.Owned) { o.Signers[0] = "x" }, api.ErrArg},
		{func(o *user.Owned) { o.Signers[1] = "" }, api.ErrArg},
		{func(o *user.Owned) { o.Signers[0] = deep }, api.ErrBig},
		{func(o *user.Owned) { o.Signers[1] = deep }, api.ErrBig},
		{func(o *user.Owned) { o.Signers[1] = words(3996) }, api.ErrBig},
		{func(o *user.Owned) { o.Signers[0], o.Signers[1] = almost, words(3995) }, api.OK},
		{func(o *user.Owned) { o.Signers[0], o.Signers[1] = deep, "x" }, api.ErrBig},
		{func(o *user.Owned) { o.Signers[0], o.Signers[1] = "x", deep }, api.ErrArg},
		{func(o *user.Owned) { o.Root, o.Signers[0] = deep, "x" }, api.ErrBig},
		{func(o *user.Owned) { o.Root, o.Signers[0] = "x", deep }, api.ErrArg},
		{func(o *user.Owned) { o.Root, o.Gone = deep, true }, api.ErrArg},
		{func(o *user.Owned) { o.Root, o.Signers = deep, nil }, api.ErrArg},
		{func(o *user.Owned) { o.Root, o.Rights.File = deep, "" }, api.ErrArg},
		{func(o *user.Owned) { o.Signers[1], o.Rights.File = deep, "" }, api.ErrArg},
		{func(o *user.Owned) { *o = user.Owned{} }, api.ErrArg},
	} {
		o := someOwned()
		c.change(&o)
		if k, e := owned(t, o); e != c.want || e != api.OK && !alike(k, reader.Keys{}) {
			t.Errorf("%d: %s, %v, not %v", i, show(k), e, c.want)
		}
	}
}

// P2: each term as the root, and as each signer.
func TestOwnKeysOfEachTerm(t *testing.T) {
	for _, x := range append(terms(), deep[1:], deep[6:], deep[7:], words(3989), words(3990), words(3991), words(3995)) {
		for epoch := range 8 {
			o := user.Owned{Rights: api.Rights{Owner: "anna", File: "notes", Epoch: epoch}, Root: x, Signers: slices.Repeat([]string{"a\x01\x05"}, epoch+1)}
			owned(t, o)
			o.Root = "a\x01\x09"
			for at := range o.Signers {
				other := o
				other.Signers = slices.Clone(o.Signers)
				other.Signers[at] = x
				owned(t, other)
			}
		}
	}
}

// P2: paths are of the owner and the file, each in its place, whatever their names.
func TestPaths(t *testing.T) {
	for _, by := range names() {
		for _, file := range names() {
			o := user.Owned{Rights: api.Rights{Owner: by, File: file}, Root: "a\x00", Signers: []string{"a\x01\x01"}}
			m := meta.Meta{Rights: api.Rights{Owner: by, File: file, Readers: []string{"q"}}, Verify: []string{"ua\x00"}, Blocks: []meta.Block{{User: "q", Box: "bua\x00pa\x00t\x00"}}, Sig: "ga\x00t\x00"}
			k, e := owned(t, o)
			l, f := keyed(t, m, "q", "a\x00")
			if want := strings.Join([]string{by, file}, "/"); k.Path != want || l.Path != want || e != api.OK || f != api.OK {
				t.Errorf("%q, %v, %q, %v", k.Path, e, l.Path, f)
			}
		}
	}
}
