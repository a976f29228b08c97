package pick_test

import (
	"math"
	"slices"
	"strconv"
	"strings"
	"testing"

	"letterlock/api"
	"letterlock/pick"
	"letterlock/store"
)

// both are a store, and what it ought to be: what is done with one is done with the other, and told alike.
type both struct {
	t *testing.T
	s *store.Store
	o ought
}

func newBoth(t *testing.T) *both { return &both{t: t, s: store.New()} }

func (b *both) put(key, blob string) {
	b.t.Helper()
	if e := b.s.Put(key, blob); e != api.OK {
		b.t.Fatalf("Put(%s, %s): %v", show(key), show(blob), e)
	}
	b.o.done = append(b.o.done, event{key: key, blob: blob})
}

// delete does nothing, where nothing is.
func (b *both) delete(key string) {
	if b.s.Delete(key) == api.OK {
		b.o.done = append(b.o.done, event{key: key, gone: true})
	}
}

// some does something with one of those keys.
func (b *both) some(d *dice, keys []string) {
	b.t.Helper()
	key := keys[d.roll(len(keys))]
	if d.roll(4) == 0 {
		b.delete(key)
	} else {
		b.put(key, []string{"", "x", "y", key, strconv.Itoa(d.roll(5))}[d.roll(5)])
	}
}

// hold holds all answers of those choices, at those keys, against what they ought to be.
func (b *both) hold(keys []string, choices []pick.Choice) {
	b.t.Helper()
	for _, key := range keys {
		for _, c := range choices {
			want, wantError := b.o.get(key, c)
			if blob, e := pick.Get(b.s, key, c); blob != want || e != wantError {
				b.t.Fatalf("Get(%s, %s): %s, %v, not %s, %v", show(key), tell(c), show(blob), e, show(want), wantError)
			}
			if l := pick.List(b.s, key, c); !slices.Equal(l, b.o.list(key, c)) {
				b.t.Fatalf("List(%s, %s): %q, not %q", show(key), tell(c), l, b.o.list(key, c))
			}
			if lies := pick.Lies(b.s, key, c); lies != b.o.lies(key, c) {
				b.t.Fatalf("Lies(%s, %s): %v", show(key), tell(c), lies)
			}
		}
	}
}

// show is a text that may be long, and of any bytes.
func show(s string) string {
	if len(s) > 40 {
		return strconv.Quote(s[:40]) + ".. of " + strconv.Itoa(len(s))
	}
	return strconv.Quote(s)
}

func tell(c pick.Choice) string {
	return strings.Join([]string{strconv.QuoteRune(rune(c.Kind)), strconv.Itoa(c.Back), show(c.Key), show(c.Bytes)}, " ")
}

// keys are some that may be put, beginnings of one another among them.
func keys() []string {
	return []string{"a", "aa", "b", "f/anna/notes", "f/anna/bills", "f/annabel/notes", "f", "m/anna", "/", "\x00", "\xff", "\u00e4"}
}

// strange are keys that cannot be put.
func strange() []string {
	return []string{"", strings.Repeat("k", 201), strings.Repeat("a", 5000)}
}

// kinds are all that a byte can be.
func kinds() []byte {
	var l []byte
	for k := range 256 {
		l = append(l, byte(k))
	}
	return l
}

// honest are all kinds that are told nothing else of.
func honest() []byte {
	return slices.DeleteFunc(kinds(), func(k byte) bool { return strings.IndexByte("sdxb", k) >= 0 })
}

// backs are numbers of steps, and some that are none, or that a sum of which goes round.
func backs() []int {
	return []int{0, 1, 2, 3, 4, 5, 10, -1, -2, -3, 2000, 1 << 31, 1 << 32, -1 << 32, math.MaxInt, math.MaxInt - 1, math.MinInt, math.MinInt + 1}
}

// choices are some of each kind, with all fields filled in, or none, or one.
func choices(key string) []pick.Choice {
	var l []pick.Choice
	for _, k := range []byte("hsdxbqHSDXB\x00\xff") {
		l = append(l, pick.Choice{Kind: k}, pick.Choice{Kind: k, Key: key}, pick.Choice{Kind: k, Bytes: "x"})
		for _, back := range backs() {
			l = append(l, pick.Choice{Kind: k, Back: back}, pick.Choice{Kind: k, Back: back, Key: key, Bytes: "y"})
		}
	}
	return l
}

// dice are numbers that come one behind the other, the same of the same beginning.
type dice struct{ n uint64 }

func (d *dice) roll(most int) int {
	d.n = d.n*6364136223846793005 + 1442695040888963407
	return int(d.n >> 33 % uint64(most))
}
