package meta_test

import (
	"slices"
	"strings"
	"testing"

	"letterlock/api"
	"letterlock/meta"
)

// built holds Build against the words, and answers what it is.
func built(t *testing.T, g given) (meta.Meta, api.Errno) {
	t.Helper()
	want, e := g.ought()
	m, f := g.build()
	if !same(m, want) || f != e {
		t.Errorf("Build(%s): %s, %v; not %s, %v", show(g), show(m), f, show(want), e)
	}
	return m, f
}

// builds holds Build against the words, and against the error that is written out.
func builds(t *testing.T, g given, want api.Errno) {
	t.Helper()
	if _, e := built(t, g); e != want {
		t.Errorf("Build(%s): %v, not %v", show(g), e, want)
	}
}

// H1: a meta of two others, written out.
func TestBuild(t *testing.T) {
	r := api.Rights{Owner: "a", File: "b", Epoch: 6, Readers: []string{"d"}, Writers: []string{"c"}}
	known := []meta.Known{{Name: "d", Public: "ua\x01\x05"}, {Name: "c", Public: "uha\x00"}}
	m, e := meta.Build("a\x00", r, 258, "a\x01\x09", []string{"t\x00", "t\x00", "t\x00", "t\x00", "t\x00", "t\x00", "a\x01\x07"}, known)
	want := meta.Meta{Rights: r, Version: 258, Verify: []string{"ut\x00", "ut\x00", "ut\x00", "ut\x00", "ut\x00", "ut\x00", "ua\x01\x07"},
		Blocks: []meta.Block{{User: "c", Box: "buha\x00pha\x01\x09a\x01\x07"}, {User: "d", Box: "bua\x01\x05pha\x01\x09t\x00"}}}
	body := "\x01\x04" +
		"\x01\x1a" + "\x01\x05" + "\x01\x01a" + "\x01\x01b" + "\x01\x02\x01\x06" + "\x01\x05\x01\x01\x01\x01d" + "\x01\x05\x01\x01\x01\x01c" +
		"\x01\x03" + "\x02\x01\x02" +
		"\x01\x26" + "\x01\x07" + strings.Repeat("\x01\x03ut\x00", 6) + "\x01\x04ua\x01\x07" +
		"\x01\x2d" + "\x01\x02" + "\x01\x14" + "\x01\x02\x01\x01c\x01\x0dbuha\x00pha\x01\x09a\x01\x07" + "\x01\x13" + "\x01\x02\x01\x01d\x01\x0cbua\x01\x05pha\x01\x09t\x00"
	want.Sig = "ga\x00t\x01" + string([]byte{byte(len(body))}) + body
	if !same(m, want) || e != api.OK {
		t.Errorf("%s, %v", show(m), e)
	}
	if s, e := meta.Body(m); s != body || e != api.OK {
		t.Errorf("%q, %v", s, e)
	}
	if s, e := meta.Put(m); s != row(body, want.Sig) || e != api.OK {
		t.Errorf("%q, %v", s, e)
	}
}

// H1: all ways to have others, at each epoch, as the words say.
func TestBuildOfAllOthers(t *testing.T) {
	for epoch := range lastEpoch + 1 {
		for _, r := range eachWay(epoch) {
			builds(t, of(r), api.OK)
		}
	}
	for _, version := range []uint64{0, 1, 255, 256, 1 << 32, 1<<64 - 1} {
		g := of(notes(2, people[:1], people[1:2]))
		g.version = version
		builds(t, g, api.OK)
	}
}

// H1: right terms of each kind can be a secret, a root, and signers.
func TestBuildOfEachKindOfTerm(t *testing.T) {
	for _, x := range rightTerms {
		for _, r := range some() {
			for _, change := range []func(g *given){
				func(g *given) { g.secret = x }, func(g *given) { g.root = x }, func(g *given) { g.signers[0] = x }, func(g *given) { g.signers[r.Epoch] = x },
				func(g *given) { g.known = append([]meta.Known{{Name: "ben", Public: x}}, g.known...) },
			} {
				g := of(r)
				change(&g)
				built(t, g)
			}
		}
	}
}

// H1: what is no right term, or not right, whatever else is.
func TestBuildOfWhatIsNotRight(t *testing.T) {
	for _, r := range some() {
		for _, x := range wrongTerms {
			g := of(r)
			g.secret = x
			builds(t, g, api.ErrArg)
			g = of(r)
			g.root = x
			builds(t, g, api.ErrArg)
			for i := range g.signers {
				g = of(r)
				g.signers[i] = x
				builds(t, g, api.ErrArg)
			}
		}
		g := of(r)
		for many := range 10 {
			g.signers = append(signers(7), anna)[:many]
			want := api.OK
			if many != r.Epoch+1 {
				want = api.ErrArg
			}
			builds(t, g, want)
		}
		for _, epoch := range []int{-1, 8, -1 << 63, 1<<63 - 1} { // one more than the last goes round
			g = of(r)
			g.r.Epoch = epoch
			builds(t, g, api.ErrArg)
			g.signers = nil
			builds(t, g, api.ErrArg)
		}
	}
	for _, r := range []api.Rights{
		{}, {Owner: "anna"}, notes(0, []string{"cy", "ben"}, nil), notes(0, []string{"ben"}, []string{"ben"}), notes(0, nil, []string{"anna"}), notes(0, []string{"Ben"}, nil),
		notes(0, people, nil), notes(0, people[:3], people[3:]), {Owner: "anna", File: "my notes"},
	} {
		builds(t, of(r), api.ErrArg)
	}
}

// H1: of the others, one by one: who is not known, and who is known by what is no public term.
func TestBuildOfWhoIsNotKnown(t *testing.T) {
	lists := [][]meta.Known{nil}
	for _, n := range []string{"ben", "cy", "z", "Ben", "be", "benn", ""} {
		for _, public := range []string{"u" + anna, "x", "a\x00", "u" + deep, "hua\x00"} {
			for _, l := range lists {
				if len(l) < 3 {
					lists = append(lists, append(slices.Clone(l), meta.Known{Name: n, Public: public}))
				}
			}
		}
	}
	seen := map[api.Errno]int{}
	for _, r := range []api.Rights{notes(1, nil, nil), notes(1, []string{"ben"}, nil), notes(1, nil, []string{"cy"}), notes(1, []string{"cy"}, []string{"ben"}), notes(1, []string{"ben", "z"}, []string{"cy"})} {
		for _, l := range lists {
			g := of(r)
			g.known = l
			_, e := built(t, g)
			seen[e]++
		}
	}
	if seen[api.OK] < 1000 || seen[api.ErrNone] < 1000 || seen[api.ErrArg] < 1000 || len(seen) != 3 {
		t.Error(seen)
	}
	g := of(notes(0, []string{"ben"}, []string{"cy"}))
	for i, c := range []struct {
		known []meta.Known
		want  api.Errno
	}{
		{nil, api.ErrNone},
		{[]meta.Known{{Name: "ben", Public: "x"}}, api.ErrArg}, // ben is the first, though cy is not known
		{[]meta.Known{{Name: "cy", Public: "x"}}, api.ErrNone},
		{[]meta.Known{{Name: "cy", Public: "x"}, {Name: "ben", Public: "ua\x00"}}, api.ErrArg},
		{[]meta.Known{{Name: "cy", Public: "ua\x00"}, {Name: "ben", Public: "ua\x00"}, {Name: "cy", Public: "x"}}, api.OK},
		{[]meta.Known{{Name: "cy", Public: "x"}, {Name: "cy", Public: "ua\x00"}, {Name: "ben", Public: "ua\x00"}}, api.ErrArg},
		{[]meta.Known{{Name: "cy", Public: "ua\x00"}, {Name: "ben", Public: ""}, {Name: "ben", Public: "ua\x00"}}, api.ErrArg},
	} {
		g.known = c.known
		if _, e := built(t, g); e != c.want {
			t.Errorf("%d: %v", i, e)
		}
	}
}

// H1: terms that are just not too deep, and those that just are.
func TestBuildOfDeepTerms(t *testing.T) {
	hashes := func(depth int) string { return strings.Repeat("h", depth-1) + "a\x01\x09" }
	for depth := 1; depth <= 40; depth++ {
		ok := func(most int) api.Errno {
			if depth > most {
				return api.ErrBig
			}
			return api.OK
		}
		for epoch := range lastEpoch + 1 {
			for _, r := range []api.Rights{notes(epoch, nil, nil), notes(epoch, []string{"ben"}, nil), notes(epoch, nil, []string{"ben"})} {
				shared := len(r.Readers)+len(r.Writers) > 0
				g := of(r)
				g.secret = hashes(depth)
				builds(t, g, ok(39))
				g = of(r)
				g.root = hashes(depth)
				if shared {
					builds(t, g, ok(31+epoch)) // of the state the hashes, a pair, and a box
				} else {
					builds(t, g, api.OK) // no state is made
				}
				g = of(r)
				g.signers[epoch] = hashes(depth)
				if len(r.Writers) > 0 {
					builds(t, g, ok(38)) // a pair and a box
				} else {
					builds(t, g, ok(39)) // its public term
				}
				if epoch > 0 {
					g = of(r)
					g.signers[0] = hashes(depth)
					builds(t, g, ok(39))
				}
				if shared && depth > 1 {
					g = of(r)
					g.known = []meta.Known{{Name: "ben", Public: "u" + hashes(depth-1)}}
					builds(t, g, ok(39))
				}
			}
		}
	}
}

// H1: terms, and a body's text, that are just not too long, and those that just are.
func TestBuildOfLongTerms(t *testing.T) {
	seen := map[api.Errno]int{}
	for long := 3650; long <= 3996; long++ {
		for _, r := range []api.Rights{notes(7, nil, nil), notes(0, nil, nil), notes(7, []string{"ben"}, nil), notes(0, nil, []string{"ben"})} {
			for _, change := range []func(g *given, x string){
				func(g *given, x string) { g.secret = x }, func(g *given, x string) { g.root = x }, func(g *given, x string) { g.signers[r.Epoch] = x },
				func(g *given, x string) { g.known = []meta.Known{{Name: "ben", Public: "u" + x}} },
			} {
				g := of(r)
				change(&g, words(long))
				_, e := built(t, g)
				seen[e]++
			}
		}
	}
	if seen[api.OK] < 500 || seen[api.ErrBig] < 500 {
		t.Error(seen)
	}
}

// H1: a signature of 4000 bytes, and of one more; and a body whose text alone has 4000.
func TestBuildOfTheGreatestBody(t *testing.T) {
	g := of(notes(0, nil, nil))
	m := meta.Meta{Rights: g.r, Version: g.version, Verify: []string{"u" + words(3000)}}
	room := 4000 - len(text(oughtBody(m)))
	for more, want := range map[int]api.Errno{-4 - 1: api.OK, -4: api.OK, -4 + 1: api.ErrBig, -1: api.ErrBig, 0: api.ErrBig, 1: api.ErrBig} { // a kind and anna's secret have 4
		g.signers[0] = words(3000 + room + more)
		builds(t, g, want)
	}
}

// H1, P2: what is right, and what is not, each with each: the first of the errors is told.
func TestBuildErrors(t *testing.T) {
	secrets := []string{anna, "x", deep}
	roots := []string{"a\x01\x09", "", deep, "h" + deep}
	others := []api.Rights{notes(1, nil, nil), notes(1, []string{"ben"}, []string{"cy"}), notes(1, []string{"cy"}, nil), notes(1, nil, []string{"ben", "cy"}), notes(0, nil, nil), notes(-1, nil, nil), notes(1, []string{"cy", "ben"}, nil)}
	chains := [][]string{signers(1), signers(0), signers(2), nil, {anna, "x"}, {"", anna}, {deep, anna}, {anna, deep}, {words(3900), anna}}
	b, c := meta.Known{Name: "ben", Public: "ua\x01\x02"}, meta.Known{Name: "cy", Public: "ua\x01\x03"}
	wrong, great := meta.Known{Name: "ben", Public: "a\x00"}, meta.Known{Name: "ben", Public: "u" + deep[1:]}
	knowns := [][]meta.Known{{b, c}, {c}, {b}, nil, {wrong, c}, {c, wrong}, {wrong}, {b, c, wrong}, {wrong, b, c}, {great, c}, {great}}
	seen := map[api.Errno]int{}
	for _, secret := range secrets {
		for _, root := range roots {
			for _, r := range others {
				for _, chain := range chains {
					for _, known := range knowns {
						_, e := built(t, given{secret, r, 1, root, chain, known})
						seen[e]++
					}
				}
			}
		}
	}
	if seen[api.OK] < 30 || seen[api.ErrArg] < 1000 || seen[api.ErrNone] < 100 || seen[api.ErrBig] < 200 || len(seen) != 4 {
		t.Error(seen)
	}
}
