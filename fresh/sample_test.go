package fresh_test

import (
	"math"
	"slices"
	"strings"

	"letterlock/fresh"
)

// Secrets of users.
const (
	anna = "a\x01\x01"
	ben  = "a\x01\x02"
)

// longest is a name of the most runes, of the most bytes.
var longest = strings.Repeat("\u044f", 32)

// deep is a right term that no other can be made of.
var deep = strings.Repeat("h", 39) + "a\x01\x08"

// words is a term that is a text.
func words(long int) string { return text(strings.Repeat("x", long)) }

// wrongTerms are texts that are no right term, whole.
var wrongTerms = []string{"", "x", "a", "a\x01", "a\x01\x00", "a\x00x", "pa\x00", "t\x01\x02a", "ba\x00a\x00", "ga\x00", "h" + deep, words(3997), "\xff", " a\x00"}

// rightTerms are right terms of each kind, flat and deep, short and long.
var rightTerms = []string{
	"a\x00", "a\x01\x05", "t\x00", "t\x01\x02hi", "pa\x00t\x00", "ha\x00", "sa\x00a\x01\x01", "ua\x01\x01", "ua\x01\x02", "uua\x00", "bua\x00a\x00", "bua\x01\x02pt\x00t\x00",
	"ga\x00t\x00", "ga\x01\x01t\x01\x01x", deep, "u" + deep[1:], "g" + deep[1:] + "t\x00", "s" + deep[1:] + "t\x00", "sa\x00" + deep[1:], words(3996), "u" + words(3995), "sa\x00" + words(3993), "ga\x00" + words(3993),
}

// terms are all of these.
func terms() []string { return slices.Concat(wrongTerms, rightTerms) }

// owners are names; wrongOwners are none.
var owners = []string{"anna", "ben", "a", "-", "0", "\u00df\u03c9", longest, strings.Repeat("z", 32)}

var wrongOwners = []string{"", "Anna", "anna/", "anna ben", "anna\x00", "\xff", "anna\xff", "\u00f7", "\u0450", longest + "\u044f", strings.Repeat("z", 33), "t\x01\x04anna"}

// times are times, and bounds.
var times = []uint64{0, 1, 2, 7, 8, 9, 255, 256, 65535, 65536, 1 << 32, 1<<63 - 1, 1 << 63, 1<<63 + 1, math.MaxUint64 - 7, math.MaxUint64 - 1, math.MaxUint64}

// counts are how many leaves there may be; wrongCounts are none of these.
var counts = []int{0, 1, 2, 3, 4, 5, 6, 7, 8}

var wrongCounts = []int{-1, 9, 10, 255, 256, 1 << 32, 1<<32 + 1, math.MaxInt64, -8, -1 << 32, math.MinInt64, math.MinInt64 + 1}

// leafOf is a leaf, put together by hand.
func leafOf(file string, version uint64) string { return "p" + text(file) + "a" + number(version) }

// leafAs is a leaf of so many bytes, of at least 263.
func leafAs(long int) string { return leafOf(strings.Repeat("x", long-7), 0) }

// files is a row of so many leaves, no two the same.
func files(many int) []string {
	var l []string
	for i := range many {
		l = append(l, leafOf([]string{"notes", "letters", "x"}[i%3], uint64(i*100)))
	}
	return l
}

// wrongLeaves are texts that no row may have in it.
var wrongLeaves = slices.Concat(wrongTerms, []string{"a\x00", "t\x00", "pa\x00t\x00", "pt\x00t\x00", "pa\x00a\x00", "hpt\x00a\x00", "st\x00a\x00", "gt\x00a\x00", "pt\x00ha\x00", "ppt\x00a\x00a\x00", deep})

// given7 is what anna's stamp of a row, of the time 7, is built of.
func given7(leaves []string) given { return given{anna, "anna", 7, leaves} }

// fair is how anna's stamp of a row, of the time 7, is checked at the time 9, with a bound of 2.
func fair(leaves []string) asked {
	s, _ := given7(leaves).ought()
	return asked{s, "u" + anna, "anna", 9, 2}
}

// rightStamps are right ones: built ones, and some that nobody would build.
func rightStamps() []fresh.Stamp {
	var l []fresh.Stamp
	for i, many := range counts {
		for _, owner := range owners {
			s, _ := given{anna, owner, times[i], files(many)}.ought()
			l = append(l, s)
		}
	}
	for _, time := range times {
		for many := range 3 {
			s, _ := given{ben, "ben", time, files(many)}.ought()
			l = append(l, s)
		}
	}
	for _, x := range rightTerms { // of any root, signed or not
		for _, many := range counts {
			s := fresh.Stamp{Owner: "anna", Time: 7, Many: many, Root: x, Sig: "ga\x00a\x00"}
			l = append(l, s)
			if s = signedStamp(anna, s); oughtRight(s) {
				l = append(l, s)
			}
		}
		if s := (fresh.Stamp{Owner: "anna", Root: x, Sig: x}); oughtRight(s) {
			l = append(l, s)
		}
	}
	return l
}

// changed are stamps, each with one change: some right, some not.
func changed() []fresh.Stamp {
	var l []fresh.Stamp
	for _, many := range counts {
		s := fair(files(many)).s
		change := func(f func(x *fresh.Stamp)) {
			x := s
			f(&x)
			l = append(l, x)
		}
		for _, n := range slices.Concat(owners, wrongOwners) {
			change(func(x *fresh.Stamp) { x.Owner = n })
		}
		for _, n := range times {
			change(func(x *fresh.Stamp) { x.Time = n })
		}
		for _, n := range slices.Concat(counts, wrongCounts) {
			change(func(x *fresh.Stamp) { x.Many = n })
		}
		for _, t := range append(terms(), s.Root, s.Sig, s.Root+"\x00", s.Sig+"\x00", s.Root[1:], s.Sig[1:], s.Sig[:len(s.Sig)-1], "p"+s.Sig[1:], "h"+s.Root, "g"+ben+s.Sig[4:]) {
			change(func(x *fresh.Stamp) { x.Root = t })
			change(func(x *fresh.Stamp) { x.Sig = t })
			change(func(x *fresh.Stamp) { x.Root, x.Sig = t, "g"+t+"a\x00" })
		}
		change(func(x *fresh.Stamp) { x.Root, x.Sig = x.Sig, x.Root })
		change(func(x *fresh.Stamp) { *x = fresh.Stamp{} })
		change(func(x *fresh.Stamp) { *x = fresh.Stamp{Owner: "anna"} })
	}
	return l
}
