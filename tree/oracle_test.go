package tree_test

import (
	"fmt"
	"strings"

	"letterlock/api"
	"letterlock/term"
)

// The chapter's words, once more and from them alone, for the tests to hold the package against:
// each tree is drawn, and each way in it, and terms are put together by hand of these drawings.

// The bounds that the chapters name.
const (
	mostBytes  = 4000
	mostLeaves = 8
)

// drawn is the tree of so many leaves: brackets about the two trees of a hash, and the leaves' places.
func drawn(many int) string {
	return []string{"", "0", "(01)", "((01)2)", "((01)(23))", "(((01)(23))4)", "(((01)(23))(45))", "(((01)(23))((45)6))", "(((01)(23))((45)(67)))"}[many]
}

// besides are the trees beside the way from each place, of so many leaves, the lowest ones first.
func besides(many int) [][]string {
	return [][][]string{
		{},
		{{}},
		{{"1"}, {"0"}},
		{{"1", "2"}, {"0", "2"}, {"(01)"}},
		{{"1", "(23)"}, {"0", "(23)"}, {"3", "(01)"}, {"2", "(01)"}},
		{{"1", "(23)", "4"}, {"0", "(23)", "4"}, {"3", "(01)", "4"}, {"2", "(01)", "4"}, {"((01)(23))"}},
		{{"1", "(23)", "(45)"}, {"0", "(23)", "(45)"}, {"3", "(01)", "(45)"}, {"2", "(01)", "(45)"}, {"5", "((01)(23))"}, {"4", "((01)(23))"}},
		{
			{"1", "(23)", "((45)6)"}, {"0", "(23)", "((45)6)"}, {"3", "(01)", "((45)6)"}, {"2", "(01)", "((45)6)"},
			{"5", "6", "((01)(23))"}, {"4", "6", "((01)(23))"}, {"(45)", "((01)(23))"},
		},
		{
			{"1", "(23)", "((45)(67))"}, {"0", "(23)", "((45)(67))"}, {"3", "(01)", "((45)(67))"}, {"2", "(01)", "((45)(67))"},
			{"5", "(67)", "((01)(23))"}, {"4", "(67)", "((01)(23))"}, {"7", "(45)", "((01)(23))"}, {"6", "(45)", "((01)(23))"},
		},
	}[many]
}

// shape puts a drawing's term together, of the hashes of leaves (and of a proof's terms, for letters).
func shape(drawing string, leaves, proof []string) string {
	var b strings.Builder
	for i := range len(drawing) {
		switch c := drawing[i]; {
		case c == '(':
			b.WriteString("hp")
		case '0' <= c && c <= '7':
			b.WriteString("h" + leaves[c-'0'])
		case 'A' <= c:
			b.WriteString(proof[c-'A'])
		}
	}
	return b.String()
}

func oughtLeaf(file string, version uint64) (string, api.Errno) {
	s := "p" + text(file) + "a" + number(version)
	if len(s) > mostBytes {
		return "", api.ErrBig
	}
	return s, api.OK
}

func oughtRoot(leaves []string) (string, api.Errno) {
	if len(leaves) == 0 || len(leaves) > mostLeaves {
		return "", api.ErrArg
	}
	for _, leaf := range leaves {
		if !isLeaf(leaf) {
			return "", api.ErrArg
		}
	}
	root := shape(drawn(len(leaves)), leaves, nil)
	if len(root) > mostBytes {
		return "", api.ErrBig
	}
	return root, api.OK
}

func oughtProof(leaves []string, at int) ([]string, api.Errno) {
	_, e := oughtRoot(leaves)
	if e != api.OK {
		return nil, e
	}
	if at < 0 || at >= len(leaves) {
		return nil, api.ErrArg
	}
	var proof []string
	for _, drawing := range besides(len(leaves))[at] {
		proof = append(proof, shape(drawing, leaves, nil))
	}
	return proof, api.OK
}

func oughtVerify(root string, many, at int, leaf string, proof []string) bool {
	if many < 1 || many > mostLeaves || at < 0 || at >= many || !isLeaf(leaf) || !isTerm(root) {
		return false
	}
	beside := besides(many)[at]
	if len(proof) != len(beside) {
		return false
	}
	drawing, leaves := drawn(many), make([]string, many)
	leaves[at] = leaf
	for i, p := range proof {
		if !isTerm(p) {
			return false
		}
		drawing = strings.Replace(drawing, beside[i], string(rune('A'+i)), 1)
	}
	return root == shape(drawing, leaves, proof)
}

func isTerm(t string) bool {
	x, behind, e := term.Read(t)
	return e == api.OK && x == t && behind == ""
}

// isLeaf tells whether t is a right pair of a text and an atom.
func isLeaf(t string) bool {
	if !isTerm(t) || t[0] != 'p' {
		return false
	}
	first, second, _ := term.Read(t[1:])
	return first[0] == 't' && second[0] == 'a'
}

// number is a number's bytes, text a text's term.
func number(n uint64) string {
	s := ""
	for ; n > 0; n /= 256 {
		s = string([]byte{byte(n % 256)}) + s
	}
	return string([]byte{byte(len(s))}) + s
}

func text(s string) string { return "t" + number(uint64(len(s))) + s }

// show is what is handed in, or answered, as a test tells of it, without the far end.
func show(x any) string {
	s := fmt.Sprintf("%+.100q", x)
	return s[:min(600, len(s))]
}
