package writer_test

import (
	"fmt"
	"slices"
	"strings"
	"testing"

	"letterlock/api"
	"letterlock/reader"
	"letterlock/writer"
)

const (
	root = "a\x01\x09"
	here = "anna/notes"
)

// longest is a name of the most runes, of the most bytes.
var longest = strings.Repeat("\u044f", 32)

// deep is a right term that no other can be made of.
var deep = strings.Repeat("h", 39) + "a\x01\x08"

// words is a term that is a text.
func words(long int) string { return text(strings.Repeat("x", long)) }

// wrongTerms are texts that are no right term, whole, beside the empty one.
var wrongTerms = []string{"x", "a", "a\x01", "a\x01\x00", "a\x00x", "pa\x00", "t\x01\x02a", "ba\x00a\x00", "ga\x00", "h" + deep, words(3997), "\xff", " a\x00"}

// rightTerms are right terms of each kind, flat and deep, short and long.
var rightTerms = []string{
	"a\x00", "a\x01\x05", "t\x00", "t\x01\x02hi", "pa\x00t\x00", "ha\x00", "sa\x00a\x01\x01", "ua\x01\x01", "uua\x00", "bua\x00a\x00", "ga\x00t\x00", "ga\x01\x01t\x01\x01x", deep, words(3996), "u" + words(3995), "ga\x00" + words(3993),
}

// terms are all of these.
func terms() []string { return append(slices.Concat(wrongTerms, rightTerms), "") }

// paths are right ones; wrongPaths are none.
var paths = []string{here, "a/b", "b/a", "-/-", "0/9", "anna/anna", "\u00df/\u03c9", longest + "/" + longest}

var wrongPaths = []string{
	"", "/", "anna", "anna/", "/notes", "anna//notes", "anna/notes/", "/anna/notes", "anna/notes/x", "annanotes", "Anna/notes", "anna/Notes", "anna/no tes", "anna\\notes", "anna/\xff", "\xff/notes", "anna/notes\x00", longest + "\u044f/notes", "anna/" + longest + "\u044f", "\u00f7/notes", "anna/\u0450",
}

// someContents are of few and of many bytes, and of such as are no runes.
var someContents = []string{
	"", "hi", "\x00", "\xff\xfe", here, "t\x01\x02hi", "a\nb", strings.Repeat("x", mostWords-1), strings.Repeat("\x80", mostWords), strings.Repeat("\u044f", mostWords/2),
}

// tooMuch are contents of too many bytes, some of them of few runes.
var tooMuch = []string{strings.Repeat("x", mostWords+1), strings.Repeat("\u044f", mostWords/2) + "x", strings.Repeat("\u044f", mostWords/2+1), strings.Repeat("x", 128), strings.Repeat("x", 4000), strings.Repeat("x", 1<<20)}

// wrongEpochs are none.
var wrongEpochs = []int{-1, 8, 9, 255, 256, 1 << 32, 1<<63 - 1, -8, -1 << 32, -1 << 63}

// stateOf is the state of an epoch, in the chain of root; signerOf is who signs contents of it.
func stateOf(epoch int) string { return strings.Repeat("h", lastEpoch-epoch) + root }

func signerOf(epoch int) string { return "a\x01" + string([]byte{byte(20 + epoch)}) }

// keysAt are the keys of an epoch of a file, as the owner, or who may write, has them; looksAt are those of who may only read.
func keysAt(epoch int) reader.Keys {
	k := reader.Keys{Path: here, Epoch: epoch, State: stateOf(epoch), Signer: signerOf(epoch)}
	for i := range epoch + 1 {
		k.Verify = append(k.Verify, "u"+signerOf(i))
	}
	return k
}

func looksAt(epoch int) reader.Keys {
	k := keysAt(epoch)
	k.Signer = ""
	return k
}

// keyChanges are of each part of keys.
func keyChanges() []func(k *reader.Keys) {
	l := []func(k *reader.Keys){func(k *reader.Keys) {}, func(k *reader.Keys) { *k = reader.Keys{} }, func(k *reader.Keys) { k.Verify = nil }, func(k *reader.Keys) { slices.Reverse(k.Verify) }, func(k *reader.Keys) { k.Verify = k.Verify[1:] }, func(k *reader.Keys) { k.State = "h" + k.State }, func(k *reader.Keys) { k.State = k.State[1:] }, func(k *reader.Keys) { k.State, k.Signer = k.Signer, k.State }}
	change := func(f func(k *reader.Keys)) { l = append(l, f) }
	for _, x := range terms() {
		change(func(k *reader.Keys) { k.State = x })
		change(func(k *reader.Keys) { k.Signer = x })
		change(func(k *reader.Keys) { k.Signer, k.Verify[len(k.Verify)-1] = x, "u"+x })
		change(func(k *reader.Keys) { k.Verify[0] = x })
		change(func(k *reader.Keys) { k.Verify[len(k.Verify)-1] = x })
		change(func(k *reader.Keys) { k.Verify = append(k.Verify, x) })
	}
	for _, n := range slices.Concat([]int{0, 1, 2, 3, 4, 5, 6, 7}, wrongEpochs) {
		change(func(k *reader.Keys) { k.Epoch = n })
		change(func(k *reader.Keys) { k.Epoch += n })
		if n >= 0 && n < 10 {
			change(func(k *reader.Keys) { k.Epoch, k.Verify = n, slices.Repeat(k.Verify[:1], n+1) })
		}
	}
	for _, p := range slices.Concat(paths, wrongPaths, []string{"anna/note", "anna/notess", "ben/notes", "notes/anna"}) {
		change(func(k *reader.Keys) { k.Path = p })
	}
	return l
}

// must does what may not err.
func must(t *testing.T, l ...api.Errno) {
	t.Helper()
	for _, e := range l {
		if e != api.OK {
			t.Fatal(e)
		}
	}
}

// sealed holds Seal against the words, and answers what it tells.
func sealed(t *testing.T, k reader.Keys, contents string) (string, api.Errno) {
	t.Helper()
	want, wantError := oughtSeal(k, contents)
	s, e := writer.Seal(k, contents)
	if s != want || e != wantError {
		t.Fatalf("Seal(%s, %s): %s, %v, not %s, %v", show(k), show(contents), show(s), e, show(want), wantError)
	}
	return s, e
}

// seals holds Seal against the words, and its error against what is written out.
func seals(t *testing.T, k reader.Keys, contents string, want api.Errno) {
	t.Helper()
	if s, e := sealed(t, k, contents); e != want || (s == "") != (want != api.OK) {
		t.Errorf("Seal(%s, %s): %s, %v, not %v", show(k), show(contents), show(s), e, want)
	}
}

// written is the bytes of contents that can be sealed.
func written(t *testing.T, k reader.Keys, contents string) string {
	t.Helper()
	s, e := sealed(t, k, contents)
	must(t, e)
	return s
}

// isBehind holds Behind against the words, and answers what it tells.
func isBehind(t *testing.T, k reader.Keys, blob string) bool {
	t.Helper()
	is := writer.Behind(k, blob)
	if is != oughtBehind(k, blob) {
		t.Fatalf("Behind(%s, %s): %v", show(k), show(blob), is)
	}
	return is
}

// renewed holds Renew, and Behind, against the words, and answers what Renew tells.
func renewed(t *testing.T, k reader.Keys, blob string) (string, bool, api.Errno) {
	t.Helper()
	want, wantChanged, wantError := oughtRenew(k, blob)
	s, changed, e := writer.Renew(k, blob)
	if s != want || changed != wantChanged || e != wantError {
		t.Fatalf("Renew(%s, %s): %s, %v, %v, not %s, %v, %v", show(k), show(blob), show(s), changed, e, show(want), wantChanged, wantError)
	}
	if changed && !isBehind(t, k, blob) {
		t.Fatalf("Renew(%s, %s): what is not behind is sealed anew", show(k), show(blob))
	}
	return s, changed, e
}

// renews holds Renew against the words, and what it tells against what is written out.
func renews(t *testing.T, k reader.Keys, blob, want string, wantChanged bool, wantError api.Errno) {
	t.Helper()
	if s, changed, e := renewed(t, k, blob); s != want || changed != wantChanged || e != wantError {
		t.Errorf("Renew(%s, %s): %s, %v, %v, not %s, %v, %v", show(k), show(blob), show(s), changed, e, show(want), wantChanged, wantError)
	}
}

// show is what is handed in, or answered, as a test tells of it, without the far end.
func show(x any) string {
	s := fmt.Sprintf("%+.300q", x)
	return s[:min(900, len(s))]
}

// dice are numbers that come one behind the other, the same of the same beginning.
type dice struct{ n uint64 }

func (d *dice) roll(most int) int {
	d.n = d.n*6364136223846793005 + 1442695040888963407
	return int(d.n >> 33 % uint64(most))
}
