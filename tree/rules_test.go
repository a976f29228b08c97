package tree_test

import (
	"slices"
	"strings"
	"testing"

	"letterlock/api"
	"letterlock/tree"
)

// P1: great rows, great proofs and long texts: what is refused is refused soon, and told as it ought to be.
func TestGreatInputs(t *testing.T) {
	long, many := strings.Repeat("h", 1<<26), slices.Repeat(files(1), 1<<20)
	if s, e := tree.Leaf(long, 1); s != "" || e != api.ErrBig {
		t.Error(e)
	}
	for i, l := range [][]string{many, many[:9], {long}, {files(1)[0], long}, {"p" + long}, {"pt\x04\x03\xff\xff\xff" + long}, slices.Repeat([]string{long}, 8), slices.Repeat([]string{long}, 1000)} {
		if s, e := tree.Root(l); s != "" || e != api.ErrArg {
			t.Errorf("%d: %v", i, e)
		}
		for _, at := range append([]int{0, 1}, noPlaces...) {
			if p, e := tree.Proof(l, at); len(p) != 0 || e != api.ErrArg {
				t.Errorf("%d, %d: %v", i, at, e)
			}
		}
	}
	for i, change := range []func(a *asked){
		func(a *asked) { a.root = long }, func(a *asked) { a.root = "" }, func(a *asked) { a.leaf = long }, func(a *asked) { a.leaf = "p" + long }, func(a *asked) { a.proof = many }, func(a *asked) { a.proof = slices.Repeat([]string{long}, 1<<10) }, func(a *asked) { a.proof = []string{long, long, long} }, func(a *asked) { a.proof[2] = long },
		func(a *asked) { a.many = 1<<63 - 1 }, func(a *asked) { a.many, a.at = 1<<63-1, 1<<63-2 }, func(a *asked) { a.many, a.at = -1<<63, -1<<63 }, func(a *asked) { a.many = 1 << 62 },
	} {
		a := fair(files(7), 2)
		change(&a)
		if a.verify() {
			t.Errorf("%d is verified", i)
		}
	}
}

// P1, P2: whatever is handed in, nothing panics, and with an error nothing else is told.
func TestAnything(t *testing.T) {
	texts := slices.Concat(noLeaves(), someLeaves(), pieces(files(8)), pieces(files(3)))
	numbers := append([]int{0, 1, 2, 3, 4, 5, 6, 7}, noPlaces...)
	d := &dice{5}
	one := func() string { return texts[d.roll(len(texts))] }
	some := func(most int) []string {
		var l []string
		for range d.roll(most + 1) {
			l = append(l, one())
		}
		return l
	}
	for range 50000 {
		many, at := numbers[d.roll(len(numbers))], numbers[d.roll(len(numbers))]
		l := some(10)
		rooted(t, l)
		proved(t, l, at)
		verifies(t, asked{one(), many, at, one(), some(4)})
		a := fair(files(1+d.roll(8)), 0)
		switch d.roll(4) {
		case 0:
			a.leaf = one()
		case 1:
			a.proof = some(4)
		case 2:
			a.many, a.at = many, at
		case 3:
			a.root = one()
		}
		verifies(t, a)
	}
}

// P3: what lies in and behind the lists that are handed in is neither written into, nor read.
func TestListsAreLeft(t *testing.T) {
	for many := 1; many <= mostLeaves; many++ {
		whole := append(files(mostLeaves), "x", "", leafOf("g", 1))
		kept := slices.Clone(whole)
		for at := -1; at <= many; at++ {
			rooted(t, whole[:many])
			proved(t, whole[:many], at)
		}
		if !slices.Equal(whole, kept) {
			t.Fatalf("%q: written into", whole)
		}
		for at := range many {
			a := fair(whole[:many], at)
			proof := append(slices.Clone(a.proof), "x", "ha\x00", "", "h"+whole[at], "h"+whole[0])
			kept := slices.Clone(proof)
			for length := range len(proof) + 1 {
				a.proof = proof[:length]
				if got := verifies(t, a); got != (length == len(besides(many)[at])) {
					t.Errorf("%s: %v", show(a), got)
				}
			}
			if !slices.Equal(proof, kept) {
				t.Fatalf("%q: written into", proof)
			}
		}
	}
}

// P3: a proof that is told is new: it shares nothing with the row, nor with another proof.
func TestProofsAreNew(t *testing.T) {
	for many := 1; many <= mostLeaves; many++ {
		for at := range many {
			l := files(many)
			one, _ := tree.Proof(l, at)
			two, _ := tree.Proof(l, at)
			for i := range one[:cap(one)] {
				one[:cap(one)][i] = "other"
			}
			if want, _ := oughtProof(files(many), at); !slices.Equal(l, files(many)) || !slices.Equal(two, want) {
				t.Fatalf("%d of %d: %s, %s", at, many, show(l), show(two))
			}
			for i := range l {
				l[i] = "other"
			}
			if want, _ := oughtProof(files(many), at); !slices.Equal(two, want) {
				t.Fatalf("%d of %d: a change of the row is seen", at, many)
			}
		}
	}
}

// P5: a list of nothing is the same, nil or empty.
func TestListsOfNothing(t *testing.T) {
	for _, l := range [][]string{nil, {}, files(3)[:0]} {
		if s, e := tree.Root(l); s != "" || e != api.ErrArg {
			t.Errorf("%q, %v", s, e)
		}
		if p, e := tree.Proof(l, 0); len(p) != 0 || e != api.ErrArg {
			t.Errorf("%q, %v", p, e)
		}
		leaf := leafOf("f", 1)
		if !tree.Verify("h"+leaf, 1, 0, leaf, l) || tree.Verify("h"+leaf, 2, 0, leaf, l) {
			t.Error("nothing is not the proof of one alone")
		}
	}
}

// P4: the same is answered again, whatever was asked between, and whatever erred.
func TestTheSameAgain(t *testing.T) {
	l := rows()
	tell := func(i int) string {
		s, e := tree.Root(l[i])
		p, f := tree.Proof(l[i], i%9)
		leaf, g := tree.Leaf(s, uint64(i))
		told := s + strings.Join(p, "") + leaf + e.Error() + f.Error() + g.Error()
		if tree.Verify(s, len(l[i]), i%9, leaf, p) {
			told += "verified"
		}
		return told
	}
	first := make([]string, len(l))
	for i := range l {
		first[i] = tell(i)
	}
	for i := len(l) - 1; i >= 0; i-- {
		if tell(i) != first[i] {
			t.Errorf("%s is told of in two ways", show(l[i]))
		}
	}
}
