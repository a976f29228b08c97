package meta_test

import (
	"slices"
	"strings"
	"testing"

	"letterlock/api"
	"letterlock/meta"
)

// fill writes over all of a list, and over what lies behind its length.
func fill[T any](l []T, x T) {
	l = l[:cap(l)]
	for i := range l {
		l[i] = x
	}
}

// spoil writes over all that a meta has by way of lists.
func spoil(m meta.Meta) {
	fill(m.Rights.Readers, "other")
	fill(m.Rights.Writers, "other")
	fill(m.Verify, "other")
	fill(m.Blocks, meta.Block{User: "other", Box: "other"})
}

// P3: what is built shares nothing with what it was built of, and no list of it any with another one.
func TestBuiltIsNew(t *testing.T) {
	for _, r := range some() {
		g := of(r)
		g.r.Readers, g.r.Writers = slices.Clone(r.Readers), slices.Clone(r.Writers)
		m, e := g.build()
		if e != api.OK {
			t.Fatal(e)
		}
		kept := apart(m)
		fill(g.r.Readers, "other")
		fill(g.r.Writers, "other")
		fill(g.signers, "other")
		fill(g.known, meta.Known{Name: "other", Public: "other"})
		if !same(m, kept) {
			t.Fatalf("%s: a change of what was handed in is seen", show(kept))
		}
		g = of(r)
		g.r.Readers, g.r.Writers = slices.Clone(r.Readers), slices.Clone(r.Writers)
		m, _ = g.build()
		spoil(m)
		if n, e := g.build(); !same(n, kept) || e != api.OK {
			t.Fatalf("%s: what was handed in is written into", show(kept))
		}
		listsApart(t, kept, func() meta.Meta { m, _ := g.build(); return m })
	}
}

// listsApart holds each list of an answer, written over, against the others.
func listsApart(t *testing.T, want meta.Meta, answer func() meta.Meta) {
	t.Helper()
	for i, over := range []func(m *meta.Meta){
		func(m *meta.Meta) { fill(m.Rights.Readers, "other"); m.Rights.Readers = want.Rights.Readers },
		func(m *meta.Meta) { fill(m.Rights.Writers, "other"); m.Rights.Writers = want.Rights.Writers },
		func(m *meta.Meta) { fill(m.Verify, "other"); m.Verify = want.Verify },
		func(m *meta.Meta) { fill(m.Blocks, meta.Block{}); m.Blocks = want.Blocks },
	} {
		m, other := answer(), answer()
		over(&m)
		if !same(m, want) || !same(other, want) {
			t.Errorf("%d: %s, %s", i, show(m), show(other))
		}
	}
}

// P3: so is what is taken.
func TestTakenIsNew(t *testing.T) {
	for _, m := range rightMetas() {
		s, e := meta.Put(m)
		if e != api.OK {
			t.Fatal(e)
		}
		listsApart(t, m, func() meta.Meta { x, _ := meta.Take(s); return x })
	}
}

// behind is a list with more behind its length.
func behind[T any](l []T, more ...T) []T {
	return slices.Concat(l, more)[:len(l)]
}

// P3: what lies in and behind the lists that are handed in is neither written into, nor read.
func TestListsAreLeft(t *testing.T) {
	for _, r := range some() {
		g := of(r)
		want, e := g.ought()
		g.r.Readers, g.r.Writers = behind(r.Readers, "zz", "a"), behind(r.Writers, "a", "zz")
		g.signers = behind(g.signers, anna, "x")
		g.known = behind(g.known, meta.Known{Name: "ben", Public: "x"}, meta.Known{Name: "zz", Public: "ua\x00"})
		whole := [][]string{slices.Clone(g.r.Readers[:len(r.Readers)+2]), slices.Clone(g.r.Writers[:len(r.Writers)+2]), slices.Clone(g.signers[:len(g.signers)+2])}
		known := slices.Clone(g.known[:len(g.known)+2])
		m, f := g.build()
		if !same(m, want) || f != e {
			t.Errorf("%s, %v; not %s, %v", show(m), f, show(want), e)
		}
		spoil(m) // which must not reach what was handed in, nor what lies behind
		m = meta.Meta{Rights: g.r, Version: want.Version, Verify: behind(want.Verify, "ua\x00"), Blocks: behind(want.Blocks, meta.Block{User: "zz", Box: "bua\x00a\x00"}), Sig: want.Sig}
		body, e := meta.Body(m)
		s, f := meta.Put(m)
		if body != oughtBody(want) || s != oughtPut(want) || e != api.OK || f != api.OK || !meta.Right(m) {
			t.Errorf("%s: %v, %v", show(m), e, f)
		}
		checks(t, m, "u"+anna, "anna", "notes")
		opens(t, m, "ben", secretOf("ben"))
		for i, l := range [][]string{g.r.Readers[:len(r.Readers)+2], g.r.Writers[:len(r.Writers)+2], g.signers[:len(g.signers)+2]} {
			if !slices.Equal(l, whole[i]) {
				t.Fatalf("%d: %q", i, l)
			}
		}
		if !slices.Equal(g.known[:len(known)], known) || m.Verify[:len(m.Verify)+1][len(m.Verify)] != "ua\x00" || m.Blocks[:len(m.Blocks)+1][len(m.Blocks)].User != "zz" || !same(m, want) {
			t.Fatalf("%s: written into", show(m))
		}
		g.known = append(g.known, g.known...)[:2] // whoever stands behind is not known
		built(t, g)
	}
}

// P5: lists of nothing are the same, nil or empty.
func TestListsOfNothing(t *testing.T) {
	a := of(notes(0, nil, nil))
	a.known = nil
	b := of(notes(0, []string{}, []string{}))
	b.known = []meta.Known{}
	m, e := built(t, a)
	n, f := built(t, b)
	if !same(m, n) || e != api.OK || f != api.OK {
		t.Errorf("%s, %s, %v, %v", show(m), show(n), e, f)
	}
	m.Blocks, n.Blocks = nil, []meta.Block{}
	s, _ := meta.Put(m)
	if r, e := meta.Put(n); s != r || e != api.OK {
		t.Errorf("%q, %q, %v", s, r, e)
	}
	taken(t, s, m)
}

// P1: great lists and long texts: what is refused is refused soon, and what is found in a great list is found.
func TestGreatInputs(t *testing.T) {
	long, many := strings.Repeat("h", 1<<24), slices.Repeat([]string{"ua\x00"}, 1<<20)
	r := notes(0, []string{"ben"}, []string{"cy"})
	for _, change := range []func(g *given){
		func(g *given) { g.secret = long }, func(g *given) { g.root = long }, func(g *given) { g.signers[0] = long }, func(g *given) { g.signers = many },
		func(g *given) { g.r.Owner = long }, func(g *given) { g.r.File = long }, func(g *given) { g.r.Readers = many }, func(g *given) { g.r.Writers = many }, func(g *given) { g.r.Readers = []string{long} },
		func(g *given) { g.known = append([]meta.Known{{Name: "ben", Public: long}}, g.known...) },
	} {
		g := of(r)
		change(&g)
		builds(t, g, api.ErrArg)
	}
	g := of(r)
	others := slices.Repeat([]meta.Known{{Name: long, Public: long}}, 1<<20)
	g.known = append(others, g.known...)
	builds(t, g, api.OK)
	g.known = others
	builds(t, g, api.ErrNone)
	m, _ := of(r).ought()
	for i, change := range []func(x *meta.Meta){
		func(x *meta.Meta) { x.Verify = many }, func(x *meta.Meta) { x.Blocks = slices.Repeat(x.Blocks, 1<<19) }, func(x *meta.Meta) { x.Sig = long }, func(x *meta.Meta) { x.Verify[0] = long },
		func(x *meta.Meta) { x.Blocks[1].Box = long }, func(x *meta.Meta) { x.Blocks[0].User = long }, func(x *meta.Meta) { x.Rights.Readers = many }, func(x *meta.Meta) { x.Rights.Owner = long },
	} {
		x := apart(m)
		change(&x)
		body, e := meta.Body(x)
		s, f := meta.Put(x)
		state, signer, g := meta.Open(x, "ben", secretOf("ben"))
		if meta.Right(x) || body != "" || e != api.ErrArg || s != "" || f != api.ErrArg || state != "" || signer != "" || g != api.ErrArg || meta.Check(x, "u"+anna, "anna", "notes") != api.ErrArg {
			t.Errorf("%d: %v, %v, %v", i, e, f, g)
		}
	}
	checks(t, m, long, "anna", "notes")
	checks(t, m, "u"+anna, long, long)
	opens(t, m, long, anna)
	opens(t, m, "ben", long)
}

// P4: the same is answered again, whatever was asked between.
func TestTheSameAgain(t *testing.T) {
	l := append(rightMetas(), changed()[:500]...)
	tell := func(m meta.Meta) string {
		body, e := meta.Body(m)
		s, f := meta.Put(m)
		x, g := meta.Take(oughtPut(m))
		state, signer, h := meta.Open(m, "ben", secretOf("ben"))
		given := of(notes(0, nil, nil))
		given.r = m.Rights
		b, i := given.build()
		return row(body, s, show(x), state, signer, b.Sig, e.Error(), f.Error(), g.Error(), h.Error(), i.Error(), meta.Check(m, "u"+anna, "anna", "notes").Error())
	}
	first := make([]string, len(l))
	for i, m := range l {
		first[i] = tell(m)
	}
	for i := len(l) - 1; i >= 0; i-- {
		if tell(l[i]) != first[i] {
			t.Errorf("%s is told of in two ways", show(l[i]))
		}
	}
}
