package wire_test

import (
	"slices"
	"strings"
	"testing"

	"letterlock/api"
	"letterlock/wire"
)

// told is all that the package answers of one text, as a text.
func told(s string) string {
	var b strings.Builder
	say := func(words ...string) { b.WriteString(wire.PutAll(words)) }
	n, rest, e := wire.Take(s)
	say(wire.Put(n), rest, e.Error(), wire.PutText(s), wire.PutAll([]string{s, s}))
	for _, most := range bounds {
		text, rest, e := wire.TakeText(s, most)
		say(text, rest, e.Error())
		l, e := wire.TakeAll(s, most, most)
		say(append(l, e.Error())...)
	}
	return b.String()
}

// P1, P4: no text makes a call panic, and the same is answered of the same, whatever was asked between.
func TestSameOfTheSame(t *testing.T) {
	l := []string{"", "\x00", "\xff", "\x08\x7f\xff\xff\xff\xff\xff\xff\xff", "\x08\xff\xff\xff\xff\xff\xff\xff\xff", strings.Repeat("\x00", 1<<16), strings.Repeat("\x01", 1<<16), strings.Repeat("\x08", 1<<16), "\x04\x7f\xff\xff\xff" + strings.Repeat("\x00", 1<<16), wire.PutAll(someTexts())}
	first := make([]string, len(l))
	for i, s := range l {
		first[i] = told(s)
	}
	for i := len(l) - 1; i >= 0; i-- {
		if told(l[i]) != first[i] {
			t.Errorf("text %d is told of in two ways", i)
		}
	}
}

// P3: PutAll neither writes into its list, nor looks behind its length.
func TestPutAllLeavesItsList(t *testing.T) {
	whole := []string{"a", "bc", "behind", "more"}
	before := slices.Clone(whole)
	if s := wire.PutAll(whole[:2]); s != "\x01\x02\x01\x01a\x01\x02bc" {
		t.Errorf("%q", s)
	}
	if s := wire.PutAll(whole[:0]); s != "\x00" {
		t.Errorf("%q", s)
	}
	if !slices.Equal(whole, before) {
		t.Error(whole)
	}
}

// P3: what was put stays as it is when the list is changed; TakeAll answers a new list each time.
func TestAnswersAreNew(t *testing.T) {
	l := []string{"a", "b"}
	s := wire.PutAll(l)
	l[0] = "z"
	one, _ := wire.TakeAll(s, 2, 1)
	two, _ := wire.TakeAll(s, 2, 1)
	one[0] = "z"
	_ = append(one[:1], "y")
	three, _ := wire.TakeAll(s, 2, 1)
	if want := []string{"a", "b"}; !slices.Equal(two, want) || !slices.Equal(three, want) {
		t.Error(two, three)
	}
}

// P5: a row of nothing is the same, nil or empty, and is taken as none.
func TestRowOfNothing(t *testing.T) {
	for _, l := range [][]string{nil, {}} {
		s := wire.PutAll(l)
		if got, e := wire.TakeAll(s, 0, 0); s != "\x00" || len(got) != 0 || e != api.OK {
			t.Errorf("%q: %q, %v", s, got, e)
		}
	}
}

// P6: texts are bytes: what is no rune is put and taken as it is.
func TestTextsAreBytes(t *testing.T) {
	all := make([]byte, 256)
	for i := range all {
		all[i] = byte(i)
	}
	for _, text := range []string{string(all), "\xff\xfe", "\xed\xa0\x80", "\u00e4"} {
		got, rest, e := wire.TakeText(wire.PutText(text), len(text))
		if got != text || rest != "" || e != api.OK {
			t.Errorf("%q, %q, %v", got, rest, e)
		}
	}
}
