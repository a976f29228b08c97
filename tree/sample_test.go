package tree_test

import (
	"math"
	"slices"
	"strings"
)

// deep is a right term that no other can be made of.
var deep = strings.Repeat("h", 39) + "a\x01\x08"

// words is a term that is a text.
func words(long int) string { return text(strings.Repeat("x", long)) }

// wrongTerms are texts that are no right term, whole.
var wrongTerms = []string{"", "x", "a", "a\x01", "a\x01\x00", "a\x00x", "pa\x00", "pt\x00", "t\x01\x02a", "pt\x00a\x00x", "pt\x00a\x01\x00", "pt\x01\x00a\x00", "pt\x00a\x00a\x00", "xt\x00a\x00", "ba\x00a\x00", "h" + deep, words(3997), "pt\x02\x0f\x9a" + strings.Repeat("x", 3994) + "a\x00", "\xff", " a\x00"}

// otherTerms are right ones, but no leaves: some differ by a kind alone.
var otherTerms = []string{
	"a\x00", "a\x01\x05", "t\x00", "t\x01\x02hi", "pa\x00t\x00", "pa\x00a\x00", "pt\x00t\x00", "st\x00a\x00", "gt\x00a\x00", "hpt\x00a\x00", "upt\x00a\x00", "ua\x00", "but\x00a\x00", "ht\x00",
	"ppt\x00a\x00a\x00", "pt\x00pt\x00a\x00", "ppt\x00a\x00pt\x00a\x00", "pht\x00a\x00", "pt\x00ha\x00", "put\x00a\x00", "pt\x00ua\x00", "pst\x00a\x00a\x00", "pt\x00sa\x00a\x00", "pbua\x00t\x00a\x00", "pt\x00gt\x00a\x00",
	deep, "p" + deep[1:] + "a\x00", "pt\x00" + deep[1:], words(3996), "p" + words(3989) + "t\x00",
}

// names and versions are those of files, right names or not.
var names = []string{"", "f", "notes", "t\x00a\x00", "\x00", "\xff\xfe", "a/b", "Anna", "\u044f", strings.Repeat("x", 255), strings.Repeat("x", 256)}

var versions = []uint64{0, 1, 2, 255, 256, 65535, 65536, 1 << 32, 1<<63 - 1, 1 << 63, math.MaxUint64}

// leafOf is a leaf, put together by hand.
func leafOf(file string, version uint64) string { return "p" + text(file) + "a" + number(version) }

// leafAs is a leaf of so many bytes, of at least 263.
func leafAs(long int) string { return leafOf(strings.Repeat("x", long-7), 0) }

// someLeaves are right ones.
func someLeaves() []string {
	var l []string
	for _, file := range names {
		for _, version := range versions {
			l = append(l, leafOf(file, version))
		}
	}
	return append(l, leafAs(3998), leafAs(3999), leafAs(4000))
}

// noLeaves are texts that no row may have in it.
func noLeaves() []string { return slices.Concat(wrongTerms, otherTerms) }

// row is a row of so many leaves, no two the same.
func row(many int) []string {
	var l []string
	for i := range many {
		l = append(l, leafOf(names[i%len(names)], versions[(i*3)%len(versions)]+uint64(i)))
	}
	return l
}

// files is a row of the same file's versions.
func files(many int) []string {
	var l []string
	for i := range many {
		l = append(l, leafOf("f", uint64(i)))
	}
	return l
}

// brimful are rows of so many leaves whose tree has so many bytes: one of them great, at each place, or all of them.
func brimful(many, long int) [][]string {
	long -= 2*(many-1) + many // a hash a leaf, and a pair and its hash for each two trees
	var l [][]string
	for at := range many {
		small := files(many)
		small[at] = leafAs(long - (len(strings.Join(small, "")) - len(small[at])))
		l = append(l, small)
	}
	var all []string
	for left := many; left > 0; left-- {
		all = append(all, leafAs(long/left))
		long -= long / left
	}
	return append(l, all)
}

// rows are rows of each length: right ones, wrong ones, great ones.
func rows() [][]string {
	l := [][]string{nil, {}}
	for many := 1; many <= 10; many++ {
		l = append(l, row(many), files(many), slices.Repeat(files(1), many))
		for at := range many {
			for _, x := range noLeaves() {
				wrong := row(many)
				wrong[at] = x
				l = append(l, wrong)
			}
		}
		for long := 3995; long <= 4005; long++ {
			l = append(l, brimful(many, long)...)
		}
	}
	for _, x := range someLeaves() {
		l = append(l, []string{x}, []string{x, x}, []string{leafOf("g", 7), x, leafOf("h", 8)})
	}
	for _, x := range noLeaves() { // what is too great beside what is wrong
		l = append(l, []string{leafAs(4000), x}, []string{x, leafAs(4000), leafAs(4000)})
	}
	return append(l, slices.Repeat([]string{leafAs(4000)}, 8), slices.Repeat([]string{leafAs(4000)}, 9))
}

// noPlaces are such in no row.
var noPlaces = []int{-1, -2, -8, 8, 9, 16, 255, 256, 1 << 32, 1<<32 + 1, math.MaxInt64, -1 << 32, math.MinInt64, math.MinInt64 + 1}
