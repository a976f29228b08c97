package tree_test

import (
	"slices"
	"testing"

	"letterlock/api"
	"letterlock/tree"
)

// J2: proofs that are written out.
func TestSomeProofs(t *testing.T) {
	const a, b, c, d, e, f, g, h = "pt\x01\x01aa\x00", "pt\x01\x01ba\x00", "pt\x01\x01ca\x00", "pt\x01\x01da\x00", "pt\x01\x01ea\x00", "pt\x01\x01fa\x00", "pt\x01\x01ga\x00", "pt\x01\x01ha\x00"
	const ab, cd, ef, gh = "hph" + a + "h" + b, "hph" + c + "h" + d, "hph" + e + "h" + f, "hph" + g + "h" + h
	all := []string{a, b, c, d, e, f, g, h}
	for i, x := range []struct {
		many, at int
		want     []string
	}{
		{1, 0, nil},
		{2, 0, []string{"h" + b}},
		{2, 1, []string{"h" + a}},
		{3, 0, []string{"h" + b, "h" + c}},
		{3, 1, []string{"h" + a, "h" + c}},
		{3, 2, []string{ab}},
		{4, 1, []string{"h" + a, cd}},
		{4, 2, []string{"h" + d, ab}},
		{5, 3, []string{"h" + c, ab, "h" + e}},
		{5, 4, []string{"hp" + ab + cd}},
		{6, 0, []string{"h" + b, cd, ef}},
		{6, 5, []string{"h" + e, "hp" + ab + cd}},
		{7, 2, []string{"h" + d, ab, "hp" + ef + "h" + g}},
		{7, 4, []string{"h" + f, "h" + g, "hp" + ab + cd}},
		{7, 6, []string{ef, "hp" + ab + cd}},
		{8, 0, []string{"h" + b, cd, "hp" + ef + gh}},
		{8, 5, []string{"h" + e, gh, "hp" + ab + cd}},
		{8, 7, []string{"h" + g, ef, "hp" + ab + cd}},
	} {
		if p, e := tree.Proof(all[:x.many], x.at); !slices.Equal(p, x.want) || e != api.OK {
			t.Errorf("%d: %q, %v", i, p, e)
		}
	}
}

// proved asks for a proof, and holds it against the words.
func proved(t *testing.T, l []string, at int) ([]string, api.Errno) {
	t.Helper()
	want, e := oughtProof(l, at)
	p, f := tree.Proof(l, at)
	if !slices.Equal(p, want) || f != e {
		t.Errorf("Proof(%s, %d) = %s, %v", show(l), at, show(p), f)
	}
	return p, f
}

// J2: the proof of each place in each row, right, wrong or too great, as the words say.
func TestProofAsItOughtToBe(t *testing.T) {
	told := map[api.Errno]int{}
	for _, l := range rows() {
		for at := -1; at <= len(l)+1; at++ {
			p, e := proved(t, l, at)
			if e != api.OK && len(p) != 0 {
				t.Errorf("%s, %d: %s beside %v", show(l), at, show(p), e)
			}
			told[e]++
		}
	}
	if told[api.OK] < 1000 || told[api.ErrBig] < 1000 || told[api.ErrArg] < 1000 {
		t.Error(told)
	}
}

// J2: places that are none: of a row whose root errs it is the root's error that is told.
func TestNoPlaces(t *testing.T) {
	for many := 1; many <= mostLeaves; many++ {
		for _, at := range append([]int{many, many + 1, -many}, noPlaces...) {
			for _, c := range []struct {
				leaves []string
				want   api.Errno
			}{
				{files(many), api.ErrArg}, {brimful(many, mostBytes)[0], api.ErrArg}, {brimful(many, mostBytes+1)[0], api.ErrBig}, {append(files(many-1), "x"), api.ErrArg}, {nil, api.ErrArg}, {files(9), api.ErrArg},
			} {
				if p, e := tree.Proof(c.leaves, at); len(p) != 0 || e != c.want {
					t.Errorf("Proof(%s, %d) = %s, %v", show(c.leaves), at, show(p), e)
				}
			}
		}
	}
	for at := range 20 {
		if p, e := tree.Proof(files(9), at); len(p) != 0 || e != api.ErrArg {
			t.Errorf("%d of nine: %s, %v", at, show(p), e)
		}
	}
}
