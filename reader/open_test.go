package reader_test

import (
	"slices"
	"strings"
	"testing"

	"letterlock/api"
	"letterlock/data"
	"letterlock/reader"
	"letterlock/user"
)

// opened holds Open against the words, and answers what it tells.
func opened(t *testing.T, k reader.Keys, blob string) (string, api.Errno) {
	t.Helper()
	want, wantError := oughtOpen(k, blob)
	s, e := reader.Open(k, blob)
	if s != want || e != wantError {
		t.Fatalf("Open(%s, %s): %q, %v, not %q, %v", show(k), show(blob), s, e, want, wantError)
	}
	return s, e
}

// keysAt are the keys of an epoch of a file, whose signers are atoms from 20 on.
func keysAt(t *testing.T, epoch int) reader.Keys {
	t.Helper()
	o := user.Owned{Rights: api.Rights{Owner: "anna", File: "notes", Epoch: epoch}, Root: "a\x01\x09"}
	for i := range epoch + 1 {
		o.Signers = append(o.Signers, "a\x01"+string([]byte{byte(20 + i)}))
	}
	k, e := reader.OwnKeys(o)
	must(t, e)
	return k
}

// written is the bytes of contents, as who has keys writes them.
func written(t *testing.T, k reader.Keys, contents string) string {
	t.Helper()
	b, e := data.Build(k.State, k.Epoch, k.Signer, k.Path, contents)
	must(t, e)
	s, e := data.Put(b)
	must(t, e)
	return s
}

// P3: contents of an epoch, opened by keys of each, written out.
func TestOpen(t *testing.T) {
	const sealed = "shpt\x01\x03keyhhhha\x01\x09pt\x01\x0aanna/notest\x01\x02hi"
	blob := row("\x01\x03", sealed, "ga\x01\x17pa\x01\x03"+sealed)
	if s := written(t, keysAt(t, 3), "hi"); s != blob {
		t.Fatalf("%q", s)
	}
	for epoch := range 8 {
		k, contents, want := keysAt(t, epoch), "hi", api.OK
		if epoch < 3 {
			contents, want = "", api.ErrSig
		}
		if s, e := opened(t, k, blob); s != contents || e != want {
			t.Errorf("%d: %q, %v", epoch, s, e)
		}
		k.Signer = "" // a reader's
		if s, e := opened(t, k, blob); s != contents || e != want {
			t.Errorf("%d: %q, %v", epoch, s, e)
		}
		for _, s := range []string{"", "\x00", blob[1:], blob + "\x00", blob[:len(blob)-1], row("\x01\x03", sealed), row("\x01\x08", sealed, "ga\x01\x17pa\x01\x08"+sealed), row("\x01\x03", sealed, sealed), row("\x01\x03", "t\x00", "ga\x00t\x00"), row("\x02\x00\x03", sealed, "ga\x01\x17pa\x01\x03"+sealed), row("\x01\x03", sealed, "ga\x01\x17pa\x01\x03"+sealed, ""), sealed} {
			if _, e := opened(t, k, s); e != api.ErrForm {
				t.Errorf("%q: %v", s, e)
			}
		}
	}
}

// P3: what is no blob is ErrForm, whatever the keys are.
func TestOpenOfNoBlob(t *testing.T) {
	for _, k := range []reader.Keys{{}, keysAt(t, 0), {Path: "anna/notes", Epoch: -1}, {Epoch: 8, State: "x", Verify: []string{"x"}}} {
		for _, s := range append(slices.Concat(names(), noNames()), terms()...) {
			if _, e := opened(t, k, s); e != api.ErrForm {
				t.Errorf("%q: %v", s, e)
			}
		}
	}
}

// P3: keys of which one part is another one: all as the words ask.
func TestOpenAsItOughtToBe(t *testing.T) {
	told := map[api.Errno]int{}
	for epoch := range 8 {
		var texts []string
		for i := range epoch + 1 {
			texts = append(texts, written(t, keysAt(t, i), "older"))
		}
		for _, change := range keyChanges() {
			k := keysAt(t, epoch)
			change(&k)
			for _, s := range texts {
				_, e := opened(t, k, s)
				told[e]++
			}
		}
	}
	for _, e := range []api.Errno{api.OK, api.ErrArg, api.ErrSig} {
		if told[e] < 300 {
			t.Error(told)
		}
	}
}

// keyChanges are of each part of keys.
func keyChanges() []func(k *reader.Keys) {
	l := []func(k *reader.Keys){func(k *reader.Keys) {}, func(k *reader.Keys) { *k = reader.Keys{} }, func(k *reader.Keys) { k.Verify = nil }, func(k *reader.Keys) { slices.Reverse(k.Verify) }, func(k *reader.Keys) { k.Verify = k.Verify[1:] }, func(k *reader.Keys) { k.State = "h" + k.State }, func(k *reader.Keys) { k.State = k.State[1:] }, func(k *reader.Keys) { k.State, k.Signer = k.Signer, k.State }}
	change := func(f func(k *reader.Keys)) { l = append(l, f) }
	for _, x := range terms() {
		change(func(k *reader.Keys) { k.State = x })
		change(func(k *reader.Keys) { k.Signer = x }) // it opens nothing, and is not asked for
		change(func(k *reader.Keys) { k.Verify[0] = x })
		change(func(k *reader.Keys) { k.Verify[len(k.Verify)-1] = x })
		change(func(k *reader.Keys) { k.Verify = append(k.Verify, x) })
	}
	for _, n := range numbers {
		change(func(k *reader.Keys) { k.Epoch = n })
		change(func(k *reader.Keys) { k.Epoch += n })
		if n >= 0 && n < 9 {
			change(func(k *reader.Keys) { k.Epoch, k.Verify = n, slices.Repeat(k.Verify[:1], n+1) })
		}
	}
	for _, p := range append(noNames(), "anna/note", "anna/notess", "ben/notes", "notes/anna", "anna") {
		change(func(k *reader.Keys) { k.Path = p })
	}
	return l
}

// P3: contents of each length, and such as are no runes; those of too many bytes nobody reads, whoever sealed and signed them.
func TestOpenOfContents(t *testing.T) {
	k := keysAt(t, 2)
	for _, s := range []string{"", "hi", "\x00", "\xff\xfe", "anna/notes", "t\x01\x02hi", strings.Repeat("x", 63), strings.Repeat("\x80", 64), strings.Repeat("\u044f", 32)} {
		if got, e := opened(t, k, written(t, k, s)); got != s || e != api.OK {
			t.Errorf("%q: %q, %v", s, got, e)
		}
	}
	for _, many := range []int{64, 65, 66, 128, 1000} {
		sealed := "s" + keyOf + k.State + "p" + text(k.Path) + text(strings.Repeat("x", many))
		_, e := opened(t, k, row("\x01\x02", sealed, "g"+k.Signer+"pa\x01\x02"+sealed))
		if want := many > 64; (e == api.ErrSig) != want || (e == api.OK) == want {
			t.Errorf("%d: %v", many, e)
		}
	}
}

// P3: signed by another one, of another epoch, or for another file: it is not opened.
func TestOpenOfOthers(t *testing.T) {
	for epoch := range 8 {
		k := keysAt(t, epoch)
		for signing := range 8 {
			other := k
			other.Signer = keysAt(t, signing).Signer
			want := api.ErrSig
			if signing == epoch {
				want = api.OK
			}
			if _, e := opened(t, k, written(t, other, "hi")); e != want {
				t.Errorf("%d, %d: %v", epoch, signing, e)
			}
		}
		other := k
		other.Path = "anna/bills"
		if _, e := opened(t, k, written(t, other, "hi")); e != api.ErrSig {
			t.Error(e)
		}
		other = k
		other.State = "h" + k.State
		if _, e := opened(t, k, written(t, other, "hi")); e != api.ErrSig {
			t.Error(e)
		}
	}
}
