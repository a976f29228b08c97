package tree_test

import (
	"slices"
	"strings"
	"testing"

	"letterlock/api"
	"letterlock/tree"
)

// asked is what a leaf is verified with.
type asked struct {
	root     string
	many, at int
	leaf     string
	proof    []string
}

func (a asked) verify() bool { return tree.Verify(a.root, a.many, a.at, a.leaf, a.proof) }

// verifies asks, and holds the answer against the words.
func verifies(t *testing.T, a asked) bool {
	t.Helper()
	got := a.verify()
	if got != oughtVerify(a.root, a.many, a.at, a.leaf, a.proof) {
		t.Errorf("%s: %v", show(a), got)
	}
	return got
}

// fair is how the leaf at a place of a row is verified, by the words.
func fair(l []string, at int) asked {
	root, _ := oughtRoot(l)
	proof, _ := oughtProof(l, at)
	return asked{root, len(l), at, l[at], proof}
}

// J3: what is verified, and what is not, written out.
func TestSomeVerified(t *testing.T) {
	const a, b, c = "pt\x01\x01aa\x00", "pt\x01\x01ba\x00", "pt\x01\x01ca\x00"
	const ab = "hph" + a + "h" + b
	const abc = "hp" + ab + "h" + c
	for i, x := range []struct {
		asked
		want bool
	}{
		{asked{"h" + a, 1, 0, a, nil}, true},
		{asked{"h" + a, 1, 0, a, []string{}}, true},
		{asked{"h" + a, 1, 0, b, nil}, false},
		{asked{"h" + a, 1, 0, a, []string{"h" + a}}, false},
		{asked{"h" + a, 2, 0, a, nil}, false},
		{asked{a, 1, 0, a, nil}, false},
		{asked{"hh" + a, 1, 0, a, nil}, false},
		{asked{"hh" + a, 1, 0, "h" + a, nil}, false},
		{asked{"ha\x00", 1, 0, "a\x00", nil}, false},
		{asked{ab, 2, 0, a, []string{"h" + b}}, true},
		{asked{ab, 2, 1, b, []string{"h" + a}}, true},
		{asked{ab, 2, 1, a, []string{"h" + b}}, false},
		{asked{ab, 2, 0, b, []string{"h" + a}}, false},
		{asked{ab, 2, 0, a, []string{b}}, false},
		{asked{ab, 2, 0, a, nil}, false},
		{asked{ab, 3, 0, a, []string{"h" + b}}, false},
		{asked{ab, 1, 0, "ph" + a + "h" + b, nil}, false}, // an inner pair is no leaf
		{asked{abc, 3, 0, a, []string{"h" + b, "h" + c}}, true},
		{asked{abc, 3, 1, b, []string{"h" + a, "h" + c}}, true},
		{asked{abc, 3, 2, c, []string{ab}}, true},
		{asked{abc, 2, 1, c, []string{ab}}, true}, // of two, the first one of which is a tree
		{asked{abc, 5, 4, c, []string{ab}}, true},
		{asked{abc, 4, 0, a, []string{"h" + b, "h" + c}}, true},
		{asked{abc, 3, 0, a, []string{"h" + c, "h" + b}}, false},
		{asked{abc, 3, 0, a, []string{"h" + b}}, false},
		{asked{abc, 3, 2, c, []string{"h" + a, "h" + b}}, false},
		{asked{abc, 4, 2, c, []string{ab}}, false},
		{asked{"hpt\x00h" + a, 2, 1, a, []string{"t\x00"}}, true}, // any right term is beside
	} {
		if got := x.verify(); got != x.want {
			t.Errorf("%d: %v", i, got)
		}
	}
}

// J3: each place of each row is verified, with its proof, and with one change it is what the words say.
func TestVerifyAsItOughtToBe(t *testing.T) {
	for many := 1; many <= mostLeaves; many++ {
		great := brimful(many, mostBytes)
		for _, l := range [][]string{great[0], great[many], row(many), slices.Repeat(files(1), many)} {
			for at := range many {
				if !verifies(t, fair(l, at)) {
					t.Errorf("%d of %s is not verified", at, show(l))
				}
				for _, a := range changed(l, at) {
					verifies(t, a)
				}
			}
		}
	}
}

// changed is what is asked of a place, each time with one change.
func changed(l []string, at int) []asked {
	var all []asked
	change := func(f func(a *asked)) {
		a := fair(l, at)
		f(&a)
		all = append(all, a)
	}
	for _, x := range slices.Concat(noLeaves(), []string{"ha\x00", "h" + l[at], l[0], l[len(l)-1], "pt\x01\x01za\x00"}) {
		change(func(a *asked) { a.root = x })
		change(func(a *asked) { a.leaf = x })
		change(func(a *asked) { a.proof = append(a.proof, x) })
		change(func(a *asked) { a.proof = append([]string{x}, a.proof...) })
		for i := range fair(l, at).proof {
			change(func(a *asked) { a.proof[i] = x })
		}
	}
	for many := -1; many <= 17; many++ {
		change(func(a *asked) { a.many = many })
		change(func(a *asked) { a.at = many })
		for place := range mostLeaves {
			change(func(a *asked) { a.many, a.at = many, place })
		}
	}
	for _, n := range noPlaces {
		change(func(a *asked) { a.many = n })
		change(func(a *asked) { a.at = n })
		change(func(a *asked) { a.many, a.at = n, n-1 })
	}
	for i := range fair(l, at).proof {
		change(func(a *asked) { a.proof = a.proof[:i] })
		change(func(a *asked) { a.proof = a.proof[i+1:] })
		change(func(a *asked) { a.proof = slices.Delete(a.proof, i, i+1) })
		change(func(a *asked) { a.proof = slices.Insert(a.proof, i, a.proof[i]) })
	}
	change(func(a *asked) { slices.Reverse(a.proof) })
	change(func(a *asked) { a.root = "h" + a.root })
	change(func(a *asked) { a.root = a.root[1:] })
	change(func(a *asked) { a.root += "\x00" })
	return all
}

// J3: a tree that would be too great is none, whatever root says, an empty one, too.
func TestVerifyOfWhatIsTooGreat(t *testing.T) {
	for many := 1; many <= mostLeaves; many++ {
		for long := mostBytes - 1; long <= mostBytes+3; long++ {
			for _, l := range brimful(many, long) {
				for at := range many {
					var proof []string
					for _, drawing := range besides(many)[at] {
						proof = append(proof, shape(drawing, l, nil))
					}
					a := asked{shape(drawn(many), l, nil), many, at, l[at], proof}
					if got := verifies(t, a); got != (long <= mostBytes) {
						t.Errorf("%d bytes: %s: %v", long, show(a), got)
					}
					for _, root := range []string{"", "h", "hp", "h" + l[at]} {
						a.root = root
						if a.verify() != (root == "h"+l[at] && many == 1 && long <= mostBytes) {
							t.Errorf("%d bytes: %s", long, show(a))
						}
					}
				}
			}
		}
	}
}

// J3: beside the way lies a term as deep as leaves the tree a right one, at each height.
func TestVerifyWithDeepTerms(t *testing.T) {
	for many := 2; many <= mostLeaves; many++ {
		for at := range many {
			l := files(many)
			for i, drawing := range besides(many)[at] {
				for hashes := 30; hashes <= 41; hashes++ {
					a := fair(l, at)
					a.proof[i] = strings.Repeat("h", hashes) + "a\x00"
					a.root = shape(strings.Replace(drawn(many), drawing, "A", 1), l, a.proof[i:])
					right := hashes+1+2*(len(a.proof)-i) <= 40
					if got := verifies(t, a); got != right {
						t.Errorf("%s: %v", show(a), got)
					}
				}
			}
		}
	}
}

// J2, J3: what the one tells the other takes.
func TestProofIsVerified(t *testing.T) {
	for _, l := range rows() {
		for at := range l {
			p, e := tree.Proof(l, at)
			root, _ := tree.Root(l)
			if got := (asked{root, len(l), at, l[at], p}).verify(); got != (e == api.OK) {
				t.Errorf("%d of %s: %v, %v", at, show(l), got, e)
			}
		}
	}
}
