package fresh_test

import (
	"slices"
	"testing"

	"letterlock/api"
	"letterlock/fresh"
	"letterlock/tree"
)

// covered holds Covers against the words, and answers it.
func covered(t *testing.T, s fresh.Stamp, at int, leaf string, proof []string) bool {
	t.Helper()
	got := fresh.Covers(s, at, leaf, proof)
	if got != oughtCover(s, at, leaf, proof) {
		t.Errorf("Covers(%s, %d, %s, %s): %v", show(s), at, show(leaf), show(proof), got)
	}
	return got
}

// K4: what is covered, and what is not, written out.
func TestCovers(t *testing.T) {
	const a, b, c = "pt\x01\x01aa\x00", "pt\x01\x01ba\x00", "pt\x01\x01ca\x00"
	const ab, sig = "hph" + a + "h" + b, "ga\x00a\x00" // who signed is not asked
	const abc = "hp" + ab + "h" + c
	for i, x := range []struct {
		s     fresh.Stamp
		at    int
		leaf  string
		proof []string
		want  bool
	}{
		{fresh.Stamp{"anna", 7, 1, "h" + a, sig}, 0, a, nil, true},
		{fresh.Stamp{"anna", 7, 1, "h" + a, sig}, 0, a, []string{}, true},
		{fresh.Stamp{"anna", 7, 1, "h" + a, sig}, 0, b, nil, false},
		{fresh.Stamp{"anna", 7, 1, "h" + a, sig}, 1, a, nil, false},
		{fresh.Stamp{"anna", 7, 1, "h" + a, sig}, -1, a, nil, false},
		{fresh.Stamp{"anna", 7, 1, "h" + a, sig}, 0, a, []string{"h" + a}, false},
		{fresh.Stamp{"anna", 7, 2, ab, sig}, 0, a, []string{"h" + b}, true},
		{fresh.Stamp{"anna", 7, 2, ab, sig}, 1, b, []string{"h" + a}, true},
		{fresh.Stamp{"anna", 7, 2, ab, sig}, 0, b, []string{"h" + a}, false},
		{fresh.Stamp{"anna", 7, 2, ab, sig}, 1, a, []string{"h" + b}, false},
		{fresh.Stamp{"anna", 7, 2, ab, sig}, 0, a, nil, false},
		{fresh.Stamp{"anna", 7, 1, ab, sig}, 0, a, []string{"h" + b}, false},
		{fresh.Stamp{"anna", 7, 3, abc, sig}, 0, a, []string{"h" + b, "h" + c}, true},
		{fresh.Stamp{"anna", 7, 3, abc, sig}, 2, c, []string{ab}, true},
		{fresh.Stamp{"anna", 7, 3, abc, sig}, 2, c, []string{"h" + a, "h" + b}, false},
		{fresh.Stamp{"anna", 7, 0, "h" + a, sig}, 0, a, nil, false}, // of no leaves none is
		{fresh.Stamp{"anna", 7, 0, "t\x00", sig}, 0, "t\x00", nil, false},
		{fresh.Stamp{"anna", 7, 0, "t\x00", sig}, 0, "", nil, false},
		{fresh.Stamp{"Anna", 7, 1, "h" + a, sig}, 0, a, nil, false}, // what is not right covers nothing
		{fresh.Stamp{"", 7, 1, "h" + a, sig}, 0, a, nil, false},
		{fresh.Stamp{"anna", 7, 1, "h" + a, ""}, 0, a, nil, false},
		{fresh.Stamp{"anna", 7, 1, "h" + a, "h" + a}, 0, a, nil, false},
		{fresh.Stamp{"anna", 7, 1, "h" + a, sig + "x"}, 0, a, nil, false},
		{fresh.Stamp{"anna", 7, 1, "", sig}, 0, a, nil, false},
		{fresh.Stamp{}, 0, a, nil, false},
		{fresh.Stamp{}, 0, "", nil, false},
	} {
		if got := covered(t, x.s, x.at, x.leaf, x.proof); got != x.want {
			t.Errorf("%d: %v", i, got)
		}
	}
}

// K4: each leaf, at each place, with each proof, by stamps right and wrong, of any number of leaves.
func TestCoversAsItOughtToBe(t *testing.T) {
	yes, no := 0, 0
	for _, many := range counts[1:] {
		l := files(many)
		for _, s := range changedOf(many) {
			for at := -1; at <= many; at++ {
				for of := range many {
					proof, e := tree.Proof(l, of)
					if e != api.OK {
						t.Fatal(e)
					}
					for _, leaf := range []string{l[of], l[0], ""} {
						if covered(t, s, at, leaf, proof) {
							yes++
						} else {
							no++
						}
					}
				}
			}
		}
	}
	if yes < 1000 || no < 1000 {
		t.Error(yes, no)
	}
}

// changedOf are stamps of a row of so many leaves, changed or not, and some of other rows.
func changedOf(many int) []fresh.Stamp {
	root := fair(files(many)).s.Root
	return slices.DeleteFunc(append(rightStamps(), changed()...), func(s fresh.Stamp) bool { return s.Root != root && s.Time != 8 })
}

// K4: places, leaves and proofs that are none.
func TestCoversOfWhatIsWrong(t *testing.T) {
	for _, many := range counts {
		l := append(files(many), leafOf("other", 9))
		s := fair(l[:many]).s
		for at := range many {
			proof, e := tree.Proof(l[:many], at)
			if e != api.OK {
				t.Fatal(e)
			}
			for _, x := range append(slices.Clone(wrongLeaves), l[many], "h"+l[at]) {
				if covered(t, s, at, x, proof) || covered(t, s, at, l[at], append(slices.Clone(proof), x)) {
					t.Errorf("%s covers at %d: %s", show(s), at, show(x))
				}
				for i := range proof {
					p := slices.Clone(proof)
					p[i] = x
					if covered(t, s, at, l[at], p) {
						t.Errorf("%s covers at %d by %s", show(s), at, show(p))
					}
				}
			}
			for _, x := range append(slices.Clone(wrongCounts), many) {
				if covered(t, s, x, l[at], proof) {
					t.Errorf("%s covers at %d", show(s), x)
				}
			}
		}
	}
}
