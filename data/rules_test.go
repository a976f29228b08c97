package data_test

import (
	"slices"
	"strings"
	"testing"

	"letterlock/api"
	"letterlock/data"
)

// P1: great lists and long texts: what is refused is refused soon, and told as it ought to be.
func TestGreatInputs(t *testing.T) {
	long, many := strings.Repeat("h", 1<<26), slices.Repeat([]string{"ua\x00"}, 1<<20)
	for _, change := range []func(g *given){
		func(g *given) { g.state = long }, func(g *given) { g.signer = long }, func(g *given) { g.path = long }, func(g *given) { g.path = long + "/notes" }, func(g *given) { g.path = "anna/" + long }, func(g *given) { g.path = strings.Repeat("/", 1<<20) },
	} {
		g := hi(3)
		change(&g)
		builds(t, g, api.ErrArg)
		g.contents = long
		builds(t, g, api.ErrArg)
	}
	g := hi(3)
	g.contents = long
	builds(t, g, api.ErrBig)
	b, _ := hi(3).ought()
	for i, change := range []func(a *asked){
		func(a *asked) { a.b.Sealed = "s" + long }, func(a *asked) { a.b.Sig = "g" + long }, func(a *asked) { a.state = long }, func(a *asked) { a.verify = many }, func(a *asked) { a.verify = slices.Repeat([]string{long}, 1000) },
	} {
		a := fair(b, 3)
		change(&a)
		if s, e := a.open(); s != "" || e != api.ErrArg {
			t.Errorf("%d: %q, %v", i, s, e)
		}
	}
	for i, change := range []func(a *asked){func(a *asked) { a.path = long }, func(a *asked) { a.verify = []string{long, long, long, long} }} {
		a := fair(b, 3)
		change(&a)
		if s, e := a.open(); s != "" || e != api.ErrSig {
			t.Errorf("%d: %q, %v", i, s, e)
		}
	}
	for _, x := range []data.Blob{{Epoch: 3, Sealed: "s" + long, Sig: b.Sig}, {Epoch: 3, Sealed: b.Sealed, Sig: "g" + long}} {
		if s, e := data.Put(x); data.Right(x) || s != "" || e != api.ErrArg {
			t.Error(e)
		}
	}
}

// P1, P2: whatever is handed in, nothing panics, and with an error nothing else is told.
func TestAnything(t *testing.T) {
	texts := slices.Concat(terms()[:len(wrongTerms)+13], []string{here, "anna", stateOf(3), "shpt\x01\x03key" + stateOf(3) + "pt\x01\x0aanna/notest\x00", strings.Repeat("x", mostWords+1)})
	numbers := append([]int{0, 3, 7}, wrongEpochs...)
	d := &dice{5}
	one := func() string { return texts[d.roll(len(texts))] }
	for range 100000 {
		n := numbers[d.roll(len(numbers))]
		if d.roll(2) > 0 {
			n = d.roll(8)
		}
		built(t, given{one(), n, one(), one(), one()})
		verify := make([]string, d.roll(10))
		for i := range verify {
			verify[i] = one()
		}
		if d.roll(2) > 0 && n >= 0 && n <= 9 {
			verify = slices.Repeat([]string{one()}, n+1)
		}
		b := data.Blob{Epoch: d.roll(9), Sealed: one(), Sig: one()}
		if d.roll(2) > 0 {
			b, _ = hi(3).ought()
		}
		opened(t, asked{b, verify, one(), n, one()})
		fits(t, one()+one())
		fits(t, row(one(), one(), one()))
	}
}

// P3: what lies in and behind the list that is handed in is neither written into, nor read.
func TestListIsLeft(t *testing.T) {
	for of := range lastEpoch + 1 {
		b, _ := hi(of).ought()
		for epoch := range lastEpoch + 1 {
			a := fair(b, epoch)
			whole := slices.Concat(a.verify, verifyUpTo(lastEpoch), []string{"x", ""})
			kept := slices.Clone(whole)
			a.verify = whole[:epoch+1]
			opened(t, a)
			for many := range len(whole) {
				if a.verify = whole[:many]; many != epoch+1 {
					opens(t, a, "", api.ErrArg)
				}
			}
			if !slices.Equal(whole, kept) {
				t.Fatalf("%q: written into", whole)
			}
		}
	}
}

// P5: a list of nothing is the same, nil or empty.
func TestListOfNothing(t *testing.T) {
	b, _ := hi(0).ought()
	for _, l := range [][]string{nil, {}, verifyUpTo(0)[:0]} {
		a := fair(b, 0)
		a.verify = l
		opens(t, a, "", api.ErrArg)
	}
}

// P4: the same is answered again, whatever was asked between, and whatever erred.
func TestTheSameAgain(t *testing.T) {
	l := append(rightBlobs(), changed()[:400]...)
	tell := func(i int) string {
		b := l[i]
		s, e := data.Put(b)
		x, f := data.Take(oughtPut(b))
		contents, g := fair(b, i%8).open()
		y, h := given{b.Sealed, i % 9, b.Sig, paths[i%len(paths)], "hi"}.build()
		return row(s, show(x), contents, y.Sealed, y.Sig, e.Error(), f.Error(), g.Error(), h.Error())
	}
	first := make([]string, len(l))
	for i := range l {
		first[i] = tell(i)
	}
	for i := len(l) - 1; i >= 0; i-- {
		if tell(i) != first[i] {
			t.Errorf("%s is told of in two ways", show(l[i]))
		}
	}
}
