package tree_test

import (
	"slices"
	"testing"

	"letterlock/api"
	"letterlock/tree"
)

// pieces are the terms that a row's tree is made of, and those that its leaves are.
func pieces(l []string) []string {
	all := slices.Clone(l)
	for at := range l {
		proof, _ := oughtProof(l, at)
		all = append(all, proof...)
	}
	root, _ := oughtRoot(l)
	all = append(all, root, root[1:])
	slices.Sort(all)
	return slices.Compact(all)
}

// J4: of each row each leaf is proved, and another leaf, at that place, is not by any proof of what is known of the tree.
func TestNoOtherLeafByAnyProof(t *testing.T) {
	for many := 1; many <= 5; many++ {
		l := files(many)
		root, _ := tree.Root(l)
		for at := range many {
			proof, e := tree.Proof(l, at)
			if e != api.OK {
				t.Fatal(e)
			}
			found := map[string]int{}
			walk(3, pieces(l), func(p []string) {
				for _, leaf := range append(l[:many:many], leafOf("f", 9), leafOf("g", uint64(at))) {
					if tree.Verify(root, many, at, leaf, p) {
						found[leaf]++
						if !slices.Equal(p, proof) {
							t.Errorf("%d of %d: proved by %s, too", at, many, show(p))
						}
					}
				}
			})
			if len(found) != 1 || found[l[at]] != 1 {
				t.Errorf("%d of %d: proved are %s", at, many, show(found))
			}
		}
	}
}

// nearly are the proofs of all places of a row, and what differs from one of these by one term.
func nearly(l []string) [][]string {
	var all [][]string
	for at := range l {
		proof, _ := oughtProof(l, at)
		all = append(all, proof)
		for i := range proof {
			for _, x := range pieces(l) {
				other := slices.Clone(proof)
				other[i] = x
				all = append(all, other)
			}
		}
	}
	return all
}

// J4: so it is in greater rows, with proofs that are nearly right, at each place, of each leaf.
func TestNoOtherLeafInGreatRows(t *testing.T) {
	for many := 1; many <= mostLeaves; many++ {
		l := row(many)
		root, _ := tree.Root(l)
		proofs := nearly(l)
		for at := range many {
			own, _ := tree.Proof(l, at)
			for _, p := range proofs {
				for from, leaf := range l {
					want := from == at && slices.Equal(p, own)
					if tree.Verify(root, many, at, leaf, p) != want {
						t.Fatalf("%d of %d, with the leaf of %d, by %s: not %v", at, many, from, show(p), want)
					}
				}
			}
		}
	}
}

// dice rolls the same numbers each time.
type dice struct{ n uint64 }

func (d *dice) roll(below int) int {
	d.n = d.n*6364136223846793005 + 1442695040888963407
	return int(d.n>>33) % below
}

// J4: rows by dice, the same leaf more than once among them: a leaf is proved just at those places at which it is.
func TestByDice(t *testing.T) {
	d := &dice{10}
	for range 5000 {
		var l []string
		for range 1 + d.roll(mostLeaves) {
			leaf, e := tree.Leaf(names[d.roll(4)], versions[d.roll(4)])
			if e != api.OK {
				t.Fatal(e)
			}
			l = append(l, leaf)
		}
		root, e := rooted(t, l)
		if e != api.OK {
			t.Fatal(e)
		}
		at, from := d.roll(len(l)), d.roll(len(l))
		proof, e := proved(t, l, at)
		if e != api.OK || !tree.Verify(root, len(l), at, l[at], proof) {
			t.Errorf("%d of %s is not proved, %v", at, show(l), e)
		}
		if tree.Verify(root, len(l), at, l[from], proof) != (l[at] == l[from]) {
			t.Errorf("%d of %s is proved with the leaf of %d, or is not", at, show(l), from)
		}
		other := slices.Clone(l)
		other[from], _ = tree.Leaf(names[d.roll(4)], versions[4+d.roll(4)])
		changed, _ := rooted(t, other)
		if changed == root || tree.Verify(changed, len(l), at, l[at], proof) {
			t.Errorf("%s, and with another leaf at %d: %d is proved of both", show(l), from, at)
		}
	}
}

// J4: a proof of a row is none of what was in it at another time: a version that is no more is not proved.
func TestEarlierVersionsAreNotProved(t *testing.T) {
	for many := 1; many <= mostLeaves; many++ {
		for at := range many {
			before, now := files(many), files(many)
			now[at] = leafOf("f", 100)
			root, _ := tree.Root(now)
			for of := range many {
				old, _ := tree.Proof(before, of)
				young, _ := tree.Proof(now, of)
				if tree.Verify(root, many, of, before[of], old) {
					t.Errorf("%d of %d is proved, though %d was changed", of, many, at)
				}
				if got := tree.Verify(root, many, of, before[of], young); got != (of != at) {
					t.Errorf("%d of %d, %d was changed: %v", of, many, at, got)
				}
			}
		}
	}
}
