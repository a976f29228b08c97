package rights_test

import (
	"fmt"
	"math"
	"slices"
	"strings"

	"letterlock/api"
	"letterlock/name"
)

// The chapter's words, once more and from them alone, for the tests to hold the package against:
// who is told of is counted, lists are sorted, and bytes are put together by hand.

const (
	mostOthers = 5
	lastEpoch  = 7
)

// others are all who are told of beside the owner.
func others(r api.Rights) []string {
	return append(slices.Clone(r.Readers), r.Writers...)
}

func oughtRight(r api.Rights) bool {
	times := map[string]int{r.Owner: 1}
	for _, n := range others(r) {
		times[n]++
	}
	for n, many := range times {
		if many != 1 || !name.Right(n) {
			return false
		}
	}
	return name.Right(r.File) && r.Epoch >= 0 && r.Epoch <= lastEpoch && len(times) <= 1+mostOthers &&
		slices.IsSorted(r.Readers) && slices.IsSorted(r.Writers)
}

func oughtNew(owner, file string) (api.Rights, api.Errno) {
	if !name.Right(owner) || !name.Right(file) {
		return api.Rights{}, api.ErrName
	}
	return api.Rights{Owner: owner, File: file}, api.OK
}

func oughtCan(r api.Rights, user string, write bool) bool {
	can := append([]string{r.Owner}, r.Writers...)
	if !write {
		can = append(can, r.Readers...)
	}
	return oughtRight(r) && slices.Contains(can, user)
}

func oughtGrant(r api.Rights, user string, write bool) (api.Rights, api.Errno) {
	switch {
	case !oughtRight(r):
		return api.Rights{}, api.ErrArg
	case !name.Right(user):
		return api.Rights{}, api.ErrName
	case user == r.Owner || slices.Contains(others(r), user):
		return api.Rights{}, api.ErrThere
	case len(others(r)) >= mostOthers:
		return api.Rights{}, api.ErrBig
	}
	x := apartFrom(r)
	if write {
		x.Writers = append(x.Writers, user)
		slices.Sort(x.Writers)
	} else {
		x.Readers = append(x.Readers, user)
		slices.Sort(x.Readers)
	}
	return x, api.OK
}

func oughtRevoke(r api.Rights, user string) (api.Rights, api.Errno) {
	switch {
	case !oughtRight(r):
		return api.Rights{}, api.ErrArg
	case !name.Right(user):
		return api.Rights{}, api.ErrName
	case !slices.Contains(others(r), user):
		return api.Rights{}, api.ErrNone
	case r.Epoch == lastEpoch:
		return api.Rights{}, api.ErrChain
	}
	x := apartFrom(r)
	is := func(n string) bool { return n == user }
	x.Readers, x.Writers, x.Epoch = slices.DeleteFunc(x.Readers, is), slices.DeleteFunc(x.Writers, is), x.Epoch+1
	return x, api.OK
}

func oughtPut(r api.Rights) (string, api.Errno) {
	if !oughtRight(r) {
		return "", api.ErrArg
	}
	return row(r.Owner, r.File, number(uint64(r.Epoch)), row(r.Readers...), row(r.Writers...)), api.OK
}

// number is a number's bytes, row a row's.
func number(n uint64) string {
	s := ""
	for ; n > 0; n /= 256 {
		s = string([]byte{byte(n % 256)}) + s
	}
	return string([]byte{byte(len(s))}) + s
}

func row(l ...string) string {
	var b strings.Builder
	b.WriteString(number(uint64(len(l))))
	for _, t := range l {
		b.WriteString(number(uint64(len(t))) + t)
	}
	return b.String()
}

// apartFrom is the same rights, in memory of their own.
func apartFrom(r api.Rights) api.Rights {
	r.Readers, r.Writers = slices.Clone(r.Readers), slices.Clone(r.Writers)
	return r
}

// made are rights of these fields.
func made(owner, file string, epoch int, readers, writers []string) api.Rights {
	return api.Rights{Owner: owner, File: file, Epoch: epoch, Readers: readers, Writers: writers}
}

// show is rights as a test tells of them, without the far ends of long texts and lists.
func show(r api.Rights) string {
	readers, writers := r.Readers[:min(8, len(r.Readers))], r.Writers[:min(8, len(r.Writers))]
	return fmt.Sprintf("{%.40q %.40q %d %.40q %.40q}", r.Owner, r.File, r.Epoch, readers, writers)
}

// same tells whether both are the same rights, lists of nothing nil or empty.
func same(a, b api.Rights) bool {
	return a.Owner == b.Owner && a.File == b.File && a.Epoch == b.Epoch && slices.Equal(a.Readers, b.Readers) && slices.Equal(a.Writers, b.Writers)
}

// longest is a name of the most runes, of the most bytes.
var longest = strings.Repeat("\u044f", 32)

// known are names that rise, anna's between them, of one to 32 runes and of each script.
var known = []string{"-", "a", "ben", "ben-2", "z", "\u00df", longest}

// strange are names that nobody has in the samples, some next to those that somebody has.
var strange = []string{"0", "an", "annaa", "be", "benn", "notes", "zz", "\u00ff", "\u03b1", longest[2:], strings.Repeat("q", 32)}

// noNames are texts that are no name, each in its way.
var noNames = []string{"", "A", "Anna", "anna ", " anna", "an/na", "a\x00", "\xff", "a\xc3", "\u00f7", "\u00c4", "\u0450", "\U0001f600", "\x00", strings.Repeat("q", 33), longest + "\u044f", strings.Repeat("z", 1<<16)}

// users are all of these.
func users() []string {
	return slices.Concat([]string{"anna"}, known, strange, noNames)
}

// eachWay are rights of anna's notes with each way to make some of the known readers and writers,
// those with more than five others, too.
func eachWay(epoch int) []api.Rights {
	l := []api.Rights{{Owner: "anna", File: "notes", Epoch: epoch}}
	for _, n := range known {
		for _, r := range l {
			reads, writes := apartFrom(r), apartFrom(r)
			reads.Readers, writes.Writers = append(reads.Readers, n), append(writes.Writers, n)
			l = append(l, reads, writes)
		}
	}
	return l
}

// some are rights of each number of others in each list, and of each epoch, all right.
func some() []api.Rights {
	var l []api.Rights
	for readers := range mostOthers + 1 {
		for writers := range mostOthers + 1 - readers {
			for epoch := range lastEpoch + 1 {
				l = append(l, made("anna", "notes", epoch, slices.Clone(known[:readers]), slices.Clone(known[readers:readers+writers])))
				l = append(l, made(longest, "\u00df", epoch, slices.Clone(known[1+writers:1+writers+readers]), slices.Clone(known[1:1+writers])))
			}
		}
	}
	return append(l, api.Rights{Owner: "a", File: "a"}, api.Rights{Owner: "a", File: "b", Readers: []string{"b"}}, api.Rights{Owner: "-", File: "0", Epoch: 7, Writers: []string{"0"}, Readers: []string{}})
}

// wrong are rights that are not right, each for one cause, at each place where it can stand.
func wrong() []api.Rights {
	l := []api.Rights{{}, {Owner: "anna"}, {File: "notes"}}
	for _, r := range some() {
		spoil := func(change func(x *api.Rights)) {
			x := apartFrom(r)
			change(&x)
			l = append(l, x)
		}
		for _, epoch := range []int{-1, 8, 9, -8, 256, 1 << 32, -1 << 32, math.MinInt64, math.MaxInt64} {
			spoil(func(x *api.Rights) { x.Epoch = epoch })
		}
		for _, n := range noNames {
			spoil(func(x *api.Rights) { x.Owner = n })
			spoil(func(x *api.Rights) { x.File = n })
		}
		for _, n := range []string{r.Owner, "", "B", "\xff", longest + "a"} { // in each list, where it would rise
			spoil(func(x *api.Rights) { x.Readers = append(x.Readers, n); slices.Sort(x.Readers) })
			spoil(func(x *api.Rights) { x.Writers = append(x.Writers, n); slices.Sort(x.Writers) })
		}
		for i, n := range r.Readers {
			spoil(func(x *api.Rights) { x.Owner = n })
			spoil(func(x *api.Rights) { x.Writers = append(x.Writers, n); slices.Sort(x.Writers) })
			spoil(func(x *api.Rights) { x.Readers = slices.Insert(x.Readers, i, n) })
			if i > 0 {
				spoil(func(x *api.Rights) { x.Readers[i], x.Readers[i-1] = x.Readers[i-1], x.Readers[i] })
			}
		}
		for i, n := range r.Writers {
			spoil(func(x *api.Rights) { x.Owner = n })
			spoil(func(x *api.Rights) { x.Readers = append(x.Readers, n); slices.Sort(x.Readers) })
			spoil(func(x *api.Rights) { x.Writers = slices.Insert(x.Writers, i, n) })
			if i > 0 {
				spoil(func(x *api.Rights) { x.Writers[i], x.Writers[i-1] = x.Writers[i-1], x.Writers[i] })
			}
		}
	}
	return l
}

// manyNames are far more names than there can be others, rising.
func manyNames() []string {
	l := make([]string, 1<<16)
	for i := range l {
		l[i] = "n" + string([]byte{'a' + byte(i>>12), 'a' + byte(i>>8&15), 'a' + byte(i>>4&15), 'a' + byte(i&15)})
	}
	return l
}

// all is all that is handed in.
func all() []api.Rights {
	return slices.Concat(some(), eachWay(0), eachWay(6), eachWay(7), wrong())
}
