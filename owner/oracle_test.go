package owner_test

import (
	"strings"

	"letterlock/api"
	"letterlock/fresh"
	"letterlock/meta"
	"letterlock/owner"
	"letterlock/term"
	"letterlock/user"
)

// The chapter's words, once more and from them alone, for the tests to hold the package against: keys,
// bytes, leaves and trees are put together by hand; what a file's meta is, and what is held of it, the
// user tells.

func oughtRight(e owner.Envelope) bool {
	if !meta.Right(e.Meta) || !fresh.Right(e.Stamp) || e.At < 0 || e.At > 7 || len(e.Proof) > 3 {
		return false
	}
	for _, t := range e.Proof {
		x, behind, f := term.Read(t)
		if f != api.OK || x != t || behind != "" {
			return false
		}
	}
	return true
}

// oughtPut is the bytes of an envelope whose meta and stamp are right, whatever else it is.
func oughtPut(e owner.Envelope) string {
	m, _ := meta.Put(e.Meta)
	s, _ := fresh.Put(e.Stamp)
	return row(m, s, number(uint64(e.At)), row(e.Proof...))
}

func oughtLeaves(u *user.User) []string {
	var l []string
	for _, file := range u.Files() {
		x, _ := u.Own(file)
		l = append(l, leafOf(file, x.Version))
	}
	return l
}

func oughtPlan(u *user.User, first string, time uint64, known []meta.Known) ([]owner.Op, api.Errno) {
	leaves, files := oughtLeaves(u), u.Files()
	for _, file := range files {
		if _, e := u.Meta(file, known); e != api.OK {
			return nil, e
		}
	}
	root := "t\x00"
	if len(files) > 0 {
		root = treeOf(leaves)
	}
	s := fresh.Stamp{Owner: u.Name(), Time: time, Many: len(files), Root: root}
	s.Sig = "g" + u.Secret() + "p" + text(s.Owner) + "pa" + number(time) + "pa" + number(uint64(s.Many)) + root
	var l []owner.Op
	for at, file := range files {
		m, _ := u.Meta(file, known)
		o := owner.Op{Key: "f/" + u.Name() + "/" + file, Blob: oughtPut(owner.Envelope{Meta: m, Stamp: s, At: at, Proof: proofOf(leaves, at)})}
		if file == first {
			l = append([]owner.Op{o}, l...)
		} else {
			l = append(l, o)
		}
	}
	return l, api.OK
}

func oughtDrop(u *user.User, file string, time uint64, known []meta.Known) ([]owner.Op, api.Errno) {
	l, e := oughtPlan(u, file, time, known)
	if e != api.OK {
		return nil, e
	}
	path := u.Name() + "/" + file
	return append([]owner.Op{{Key: "f/" + path, Delete: true}, {Key: "d/" + path, Delete: true}}, l...), api.OK
}

// half is how many leaves, of 2 to 8, the first part of a tree has.
func half(many int) int { return []int{0, 0, 1, 2, 2, 4, 4, 4, 4}[many] }

func treeOf(leaves []string) string {
	if len(leaves) == 1 {
		return "h" + leaves[0]
	}
	n := half(len(leaves))
	return "hp" + treeOf(leaves[:n]) + treeOf(leaves[n:])
}

func proofOf(leaves []string, at int) []string {
	n := half(len(leaves))
	switch {
	case n == 0:
		return nil
	case at < n:
		return append(proofOf(leaves[:n], at), treeOf(leaves[n:]))
	}
	return append(proofOf(leaves[n:], at-n), treeOf(leaves[:n]))
}

// leafOf is a leaf, number a number's bytes, row a row's, text a text's term.
func leafOf(file string, version uint64) string { return "p" + text(file) + "a" + number(version) }

func number(n uint64) string {
	s := ""
	for ; n > 0; n /= 256 {
		s = string([]byte{byte(n % 256)}) + s
	}
	return string([]byte{byte(len(s))}) + s
}

func row(l ...string) string {
	var b strings.Builder
	b.WriteString(number(uint64(len(l))))
	for _, t := range l {
		b.WriteString(number(uint64(len(t))) + t)
	}
	return b.String()
}

func text(s string) string { return "t" + number(uint64(len(s))) + s }
