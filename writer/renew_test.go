package writer_test

import (
	"slices"
	"strings"
	"testing"

	"letterlock/api"
	"letterlock/reader"
)

// signedAs is the bytes of a blob of anything, signed with the signer of an epoch as that epoch's.
func signedAs(epoch int, inside string) string {
	return row(number(uint64(epoch)), inside, "g"+signerOf(epoch)+"pa"+number(uint64(epoch))+inside)
}

// Q2, Q3: blobs of each epoch, with keys of each, a writer's and a reader's.
func TestEachEpoch(t *testing.T) {
	for of := range lastEpoch + 1 {
		for i, contents := range someContents {
			s := written(t, keysAt(of), contents)
			for epoch := range lastEpoch + 1 {
				k, looks := keysAt(epoch), looksAt(epoch)
				if is := isBehind(t, k, s); is != (of < epoch) || is != isBehind(t, looks, s) {
					t.Errorf("%d, %d, %d: %v", i, of, epoch, is)
				}
				switch {
				case of > epoch:
					renews(t, k, s, "", false, api.ErrSig)
					renews(t, looks, s, "", false, api.ErrSig)
				case of == epoch:
					renews(t, k, s, s, false, api.OK)
					renews(t, looks, s, s, false, api.OK)
				default:
					renews(t, k, s, written(t, k, contents), true, api.OK)
					renews(t, looks, s, "", false, api.ErrDenied)
				}
			}
		}
	}
}

// Q2, Q3: bytes, written out.
func TestRenew(t *testing.T) {
	const (
		old   = "shpt\x01\x03keyhhha\x01\x09pt\x01\x0aanna/notest\x01\x02hi"
		newer = "shpt\x01\x03keyhha\x01\x09pt\x01\x0aanna/notest\x01\x02hi"
	)
	was := row("\x01\x04", old, "ga\x01\x18pa\x01\x04"+old)
	is := row("\x01\x05", newer, "ga\x01\x19pa\x01\x05"+newer)
	k := keysAt(5)
	renews(t, k, was, is, true, api.OK)
	renews(t, k, is, is, false, api.OK)
	if !isBehind(t, k, was) || isBehind(t, k, is) {
		t.Error("behind")
	}
}

// Q2, Q3: what is not opened is not behind, however old it is, and is not renewed.
func TestWhatIsNotOpened(t *testing.T) {
	s := written(t, keysAt(2), "hi")
	sealed := sealedOf(stateOf(2), here, "hi")
	not := func(k reader.Keys, blob string, want api.Errno) {
		t.Helper()
		if isBehind(t, k, blob) {
			t.Errorf("%s, %s: behind", show(k), show(blob))
		}
		renews(t, k, blob, "", false, want)
	}
	for _, signer := range []string{"", "x", deep, signerOf(6)} {
		k := keysAt(6)
		k.Signer = signer
		for _, blob := range []string{"", "\x00", "x", s[1:], s + "\x00", s[:len(s)-1], sealed, row("\x01\x02", sealed), row("\x01\x08", sealed, "ga\x01\x16pa\x01\x08"+sealed), row("\x02\x00\x02", sealed, "ga\x01\x16pa\x01\x02"+sealed), row("\x01\x02", "t\x00", "ga\x00t\x00"), row("\x01\x02", sealed, sealed)} {
			not(k, blob, api.ErrForm)
		}
		for _, x := range terms() {
			not(k, x, api.ErrForm)
		}
		for _, blob := range []string{
			row("\x01\x01", sealed, "ga\x01\x16pa\x01\x02"+sealed), row("\x01\x02", sealed, "ga\x01\x15pa\x01\x02"+sealed), row("\x01\x01", sealed, "ga\x01\x15pa\x01\x01"+sealed), row("\x01\x02", sealed, "ga\x01\x16"+sealed), // another epoch's, or somebody's else
			signedAs(2, sealedOf(stateOf(2), "anna/note", "hi")), signedAs(2, sealedOf(stateOf(1), here, "hi")), signedAs(2, sealedOf(stateOf(3), here, "hi")), signedAs(2, sealedOf(stateOf(2), here, strings.Repeat("x", 65))),
			signedAs(2, "s"+keyOf+stateOf(2)+text("hi")), signedAs(2, "s"+keyOf+stateOf(2)+"p"+text(here)+"a\x00"), signedAs(2, "s"+stateOf(2)+"p"+text(here)+text("hi")),
		} {
			not(k, blob, api.ErrSig)
		}
		for _, change := range []func(k *reader.Keys){
			func(k *reader.Keys) { k.Epoch = 8 }, func(k *reader.Keys) { k.Epoch = -1 }, func(k *reader.Keys) { k.Epoch = 5 }, func(k *reader.Keys) { k.Epoch = 1<<63 - 1 }, func(k *reader.Keys) { k.Verify = nil }, func(k *reader.Keys) { k.Verify = append(k.Verify, "ua\x00") }, func(k *reader.Keys) { k.State = "" }, func(k *reader.Keys) { k.State = "x" },
		} {
			other := k
			change(&other)
			not(other, s, api.ErrArg)
			not(other, "x", api.ErrForm)
		}
		for _, change := range []func(k *reader.Keys){
			func(k *reader.Keys) { k.Path = "anna/note" }, func(k *reader.Keys) { k.Path = "" }, func(k *reader.Keys) { k.State = stateOf(5) }, func(k *reader.Keys) { k.State = stateOf(7) }, func(k *reader.Keys) { k.State = "a\x01\x08" }, func(k *reader.Keys) { k.Verify[2] = "ua\x00" }, func(k *reader.Keys) { k.Verify[2] = "x" }, func(k *reader.Keys) { slices.Reverse(k.Verify) },
		} {
			other := k
			other.Verify = slices.Clone(k.Verify)
			change(&other)
			not(other, s, api.ErrSig)
		}
	}
}

// Q3: what is opened, and behind, but cannot be sealed anew: each error as Seal tells it. What is not behind is left, whatever the signer is.
func TestRenewOfWhatCannotBeSealed(t *testing.T) {
	for epoch := 1; epoch <= lastEpoch; epoch++ {
		for _, path := range append(wrongPaths[:len(wrongPaths):len(wrongPaths)], here) {
			was, is := signedAs(epoch-1, sealedOf(stateOf(epoch-1), path, "hi")), signedAs(epoch, sealedOf(stateOf(epoch), path, "hi"))
			for signer, want := range map[string]api.Errno{"": api.ErrDenied, "x": api.ErrArg, "h" + deep: api.ErrArg, words(3997): api.ErrArg, deep: api.ErrBig, words(3996): api.ErrBig, signerOf(epoch): api.OK, "t\x00": api.OK} {
				if path != here && signer != "" {
					want = api.ErrArg
				}
				k := keysAt(epoch)
				k.Signer, k.Path = signer, path
				if s, changed, e := renewed(t, k, was); e != want || changed != (e == api.OK) || changed != (s != "") {
					t.Errorf("%q, %s: %v, not %v", path, show(signer), e, want)
				}
				if !isBehind(t, k, was) || isBehind(t, k, is) {
					t.Errorf("%q, %s", path, show(signer))
				}
				renews(t, k, is, is, false, api.OK)
			}
		}
	}
}

// Q3: with states that are just not, and just, too deep. An older state is deeper, so what could be sealed then can be sealed anew.
func TestRenewOfGreatTerms(t *testing.T) {
	told := map[api.Errno]int{}
	for hashes := 20; hashes < 40; hashes++ {
		for epoch := range lastEpoch + 1 {
			for of := range epoch + 1 {
				k := keysAt(epoch)
				k.State = strings.Repeat("h", hashes) + "a\x00"
				old := keysAt(of)
				old.State = strings.Repeat("h", epoch-of) + k.State
				s, e := sealed(t, old, "hi")
				if e != api.OK {
					s = row(number(uint64(of)), sealedOf(old.State, here, "hi"), "ga\x00t\x00")
				}
				got, _, f := renewed(t, k, s)
				told[f]++
				if f != e && e == api.OK || f == api.OK && got != written(t, k, "hi") {
					t.Errorf("%d, %d, %d: %v, %v", hashes, of, epoch, e, f)
				}
			}
		}
	}
	if told[api.OK] < 200 || told[api.ErrSig]+told[api.ErrForm] < 100 {
		t.Error(told)
	}
}

// Q2, Q3: keys of which one part is another one, with blobs of each epoch up to theirs: all as the words ask.
func TestRenewAsItOughtToBe(t *testing.T) {
	told, behind := map[api.Errno]int{}, 0
	for epoch := range lastEpoch + 1 {
		var l []string
		for of := range min(epoch+2, lastEpoch+1) {
			l = append(l, written(t, keysAt(of), "older"), signedAs(of, sealedOf(stateOf(of), "notes", "hi")))
		}
		for _, change := range keyChanges() {
			for _, s := range append(l, "", "x") {
				k := keysAt(epoch)
				change(&k)
				_, _, e := renewed(t, k, s)
				told[e]++
				if isBehind(t, k, s) {
					behind++
				}
			}
		}
	}
	for _, e := range []api.Errno{api.OK, api.ErrDenied, api.ErrArg, api.ErrForm, api.ErrSig, api.ErrBig} {
		if told[e] < 30 {
			t.Error(told)
		}
	}
	if behind < 1000 {
		t.Error(behind)
	}
}

// Q2, Q3: a blob that is spoilt in any one byte, cut short, or made longer.
func TestRenewOfWhatIsSpoilt(t *testing.T) {
	k, s := keysAt(6), written(t, keysAt(2), "hi")
	not := func(blob string) {
		t.Helper()
		if got, changed, e := renewed(t, k, blob); got != "" || changed || e == api.OK || isBehind(t, k, blob) {
			t.Fatalf("%q: %q, %v, %v", blob, got, changed, e)
		}
	}
	for i := range len(s) {
		not(s[:i])
		not(s[:i] + s[i+1:])
		not(s[:i] + "\x00" + s[i:])
		for n := range 256 {
			if byte(n) != s[i] {
				not(s[:i] + string([]byte{byte(n)}) + s[i+1:])
			}
		}
	}
	not(s + s)
}
