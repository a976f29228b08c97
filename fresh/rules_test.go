package fresh_test

import (
	"math"
	"slices"
	"strings"
	"testing"

	"letterlock/api"
	"letterlock/fresh"
	"letterlock/tree"
)

// P1: great rows, great proofs and long texts: what is refused is refused soon, and told as it ought to be.
func TestGreatInputs(t *testing.T) {
	long, many := strings.Repeat("h", 1<<26), slices.Repeat(files(1), 1<<20)
	for i, g := range []given{{long, "anna", 7, nil}, {anna, long, 7, nil}, {anna, strings.Repeat("\u044f", 1<<25), 7, nil}, given7(many), given7([]string{long}), given7([]string{files(1)[0], "p" + long}), given7(slices.Repeat([]string{long}, 1000)), {long, long, 7, many}} {
		if s, e := g.build(); s != (fresh.Stamp{}) || e != api.ErrArg {
			t.Errorf("%d: %v", i, e)
		}
	}
	for i, change := range []func(a *asked){
		func(a *asked) { a.s.Owner = long }, func(a *asked) { a.s.Root = long }, func(a *asked) { a.s.Sig = "g" + long }, func(a *asked) { a.public = "u" + long },
	} {
		a := fair(files(3))
		change(&a)
		if e := a.check(); e != api.ErrArg {
			t.Errorf("%d: %v", i, e)
		}
		if i == 3 {
			continue
		}
		if b, e := fresh.Put(a.s); fresh.Right(a.s) || b != "" || e != api.ErrArg || fresh.Covers(a.s, 0, files(1)[0], nil) {
			t.Errorf("%d: %v", i, e)
		}
	}
	a := fair(files(3))
	a.owner = long
	checks(t, a, api.ErrName)
	if fresh.Covers(a.s, 0, long, nil) || fresh.Covers(a.s, 0, files(1)[0], many) || fresh.Covers(a.s, 0, files(1)[0], []string{long, long}) {
		t.Error("what is too great is covered")
	}
}

// P1, P2: whatever is handed in, nothing panics, and with an error nothing else is told.
func TestAnything(t *testing.T) {
	d := &dice{5}
	texts := slices.Concat(terms(), owners, wrongOwners, files(8), pieces(t, files(8)))
	one := func() string { return texts[d.roll(len(texts))] }
	some := func(most int) []string {
		var l []string
		for range d.roll(most + 1) {
			l = append(l, one())
		}
		return l
	}
	time := func() uint64 { return times[d.roll(len(times))] }
	numbers := slices.Concat(counts, wrongCounts)
	for range 50000 {
		built(t, given{one(), one(), time(), some(10)})
		built(t, given{anna, one(), time(), append(files(d.roll(9)), some(1)...)})
		s := fresh.Stamp{one(), time(), numbers[d.roll(len(numbers))], one(), one()}
		if d.roll(2) > 0 {
			s = fair(files(d.roll(9))).s
		}
		checked(t, asked{s, one(), one(), time(), time()})
		checked(t, asked{s, "u" + anna, "anna", time(), time()})
		covered(t, s, numbers[d.roll(len(numbers))], one(), some(4))
		if b, e := fresh.Put(s); oughtRight(s) != (e == api.OK) || e != api.OK && b != "" {
			t.Errorf("Put(%s): %s, %v", show(s), show(b), e)
		}
		fits(t, one()+one())
		fits(t, row(one(), number(time()), number(uint64(d.roll(10))), one(), one()))
	}
}

// P3: what lies in and behind the lists that are handed in is neither written into, nor read.
func TestListsAreLeft(t *testing.T) {
	whole := append(files(mostLeaves), "x", "", leafOf("g", 1))
	kept := slices.Clone(whole)
	for many := range len(whole) + 1 {
		_, e := built(t, given7(whole[:many]))
		if (e == api.OK) != (many <= mostLeaves) {
			t.Errorf("%d: %v", many, e)
		}
	}
	for many := 1; many <= mostLeaves; many++ {
		s := fair(whole[:many]).s
		for at := range many {
			own, _ := tree.Proof(whole[:many], at)
			proof := append(slices.Clone(own), "x", "ha\x00", "", "h"+whole[at])
			before := slices.Clone(proof)
			for length := range len(proof) + 1 {
				if covered(t, s, at, whole[at], proof[:length]) != (length == len(own)) {
					t.Errorf("%d of %d by the first %d", at, many, length)
				}
			}
			if !slices.Equal(proof, before) {
				t.Fatalf("%q: written into", proof)
			}
		}
	}
	if !slices.Equal(whole, kept) {
		t.Fatalf("%q: written into", whole)
	}
}

// P3: a stamp that was built is as it was, whatever becomes of the leaves.
func TestNothingIsKept(t *testing.T) {
	l := files(5)
	s, e := fresh.Build(anna, "anna", 7, l)
	proof, _ := tree.Proof(l, 2)
	leaf := l[2]
	for i := range l {
		l[i] = "x"
	}
	if want := fair(files(5)).s; s != want || e != api.OK || !fresh.Covers(s, 2, leaf, proof) {
		t.Errorf("%s, %v", show(s), e)
	}
}

// P4: the same is answered again, whatever was asked between, and whatever erred.
func TestTheSameAgain(t *testing.T) {
	l := append(rightStamps(), changed()...)
	tell := func(i int) string {
		s := l[i]
		b, e := fresh.Put(s)
		x, f := fresh.Take(oughtPut(s))
		y, g := given{s.Root, s.Owner, s.Time, files(i % 10)}.build()
		h := asked{s, "u" + anna, "anna", math.MaxUint64 - uint64(i), math.MaxUint64}.check()
		told := row(b, show(x), show(y), e.Error(), f.Error(), g.Error(), h.Error())
		if fresh.Covers(s, 0, files(1)[0], nil) {
			told += "covered"
		}
		return told
	}
	first := make([]string, len(l))
	for i := range l {
		first[i] = tell(i)
	}
	for i := len(l) - 1; i >= 0; i-- {
		if tell(i) != first[i] {
			t.Errorf("%s is told of in two ways", show(l[i]))
		}
	}
}
