package name_test

import (
	"slices"
	"strings"
	"testing"

	"letterlock/api"
	"letterlock/name"
)

// told is all that the package answers of one text, as a text.
func told(s string) string {
	var b strings.Builder
	say := func(words ...string) { b.WriteString(strings.Join(words, "|") + "\n") }
	yes := map[bool]string{true: "yes", false: "no"}
	l, e := name.Runes(s)
	made, e2 := name.Make(l)
	say(yes[name.Right(s)], e.Error(), made, e2.Error(), name.Fold(s), yes[name.Less(s, "m")], yes[name.Less("m", s)])
	path, e := name.Path(s, s)
	say(path, e.Error())
	owner, file, e := name.Split(s)
	say(owner, file, e.Error())
	return b.String()
}

// P1, P4: no text makes a call panic, and the same is answered of the same, whatever was asked between.
func TestSameOfTheSame(t *testing.T) {
	l := []string{"", "anna", "anna/notes", "\xff", "\uFFFD", strings.Repeat("/", 1<<16), strings.Repeat("\xff", 1<<16), strings.Repeat("\u00C4", 1<<16)}
	first := make([]string, len(l))
	for i, s := range l {
		first[i] = told(s)
	}
	for i := len(l) - 1; i >= 0; i-- {
		if told(l[i]) != first[i] {
			t.Errorf("text %d is told of in two ways", i)
		}
	}
}

// P3: Make neither writes into its list, nor looks behind its length.
func TestMakeLeavesItsList(t *testing.T) {
	whole := []int32{'a', 'b', -1, 'c', 0xD800}
	before := slices.Clone(whole)
	if s, e := name.Make(whole[:2]); s != "ab" || e != api.OK {
		t.Error(s, e)
	}
	if s, e := name.Make(whole[:4]); s != "" || e != api.ErrArg {
		t.Error(s, e)
	}
	if !slices.Equal(whole, before) {
		t.Error(whole)
	}
}

// P3: a text that was made stays as it is when the list is changed; Runes answers a new list each time.
func TestAnswersAreNew(t *testing.T) {
	l := []int32{'a', 'b'}
	s, _ := name.Make(l)
	l[0] = 'z'
	if s != "ab" {
		t.Errorf("%q", s)
	}
	one, _ := name.Runes(s)
	two, _ := name.Runes(s)
	one[0] = 'z'
	_ = append(one[:1], 'y')
	if three, _ := name.Runes(s); !slices.Equal(two, []int32{'a', 'b'}) || !slices.Equal(three, two) {
		t.Error(two, three)
	}
}

// P5, P6: a list of nothing is as none, and texts are bytes, in order by them.
func TestNothingAndBytes(t *testing.T) {
	if l, e := name.Runes(""); len(l) != 0 || e != api.OK {
		t.Error(l, e)
	}
	for _, l := range [][]int32{nil, {}} {
		if s, e := name.Make(l); s != "" || e != api.OK {
			t.Errorf("%q %v", s, e)
		}
	}
	if !name.Less("\x7f", "\x80") || name.Less("\x80", "\x7f") {
		t.Error("bytes are not in order as numbers from 0 to 255")
	}
}
