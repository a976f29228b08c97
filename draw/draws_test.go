package draw_test

import (
	"slices"
	"testing"

	"letterlock/draw"
)

// E2: draws that are written out.
func TestSomeDraws(t *testing.T) {
	for seed, want := range map[uint64][]uint64{
		0:       {0xE220A8397B1DCDAF, 0x6E789E6AA1B965F4, 0x06C45D188009454F, 0xF88BB8A8724C81EC},
		1234567: {6457827717110365317, 3203168211198807973, 9817491932198370423, 4593380528125082431, 16408922859458223821},
	} {
		d := draw.New(seed)
		for i, n := range want {
			if got := d.Next(); got != n {
				t.Errorf("draw %d of %d: %x", i, seed, got)
			}
		}
	}
}

// E2: draws of each seed as the words say, and how many there were; of seeds next to the greatest one they go round.
func TestDrawsAsTheyOughtToBe(t *testing.T) {
	for _, seed := range someNumbers() {
		d := draw.New(seed)
		if d.Many() != 0 {
			t.Errorf("%d are drawn of the new %x", d.Many(), seed)
		}
		for i := range 20 {
			if got := d.Next(); got != oughtDraw(seed, uint64(i)) || d.Many() != i+1 {
				t.Errorf("draw %d of %x: %x, %d drawn", i, seed, got, d.Many())
			}
		}
	}
}

// E2: a long row of draws, and of the numbers that tell how many.
func TestLongRowOfDraws(t *testing.T) {
	const seed = 0xFEDCBA9876543210
	d := draw.New(seed)
	for i := range 70000 {
		if got := d.Next(); got != oughtDraw(seed, uint64(i)) || d.Many() != i+1 {
			t.Fatalf("draw %d: %x, %d drawn", i, got, d.Many())
		}
	}
}

// E2: Many draws nothing.
func TestManyDrawsNothing(t *testing.T) {
	d := draw.New(5)
	for i := range 10 {
		for range i {
			if d.Many() != i {
				t.Errorf("%d, not %d", d.Many(), i)
			}
		}
		if got := d.Next(); got != oughtDraw(5, uint64(i)) {
			t.Errorf("draw %d: %x", i, got)
		}
	}
}

// some are that many draws.
func some(d *draw.Draws, many int) []uint64 {
	l := []uint64{}
	for range many {
		l = append(l, d.Next())
	}
	return l
}

// E4: the same seed draws the same, and another one other draws.
func TestSameSeedDrawsTheSame(t *testing.T) {
	of := map[uint64]uint64{}
	for _, seed := range someNumbers() {
		l := some(draw.New(seed), 9)
		if !slices.Equal(l, some(draw.New(seed), 9)) {
			t.Errorf("%x draws in two ways", seed)
		}
		if other, there := of[l[0]]; there && other != seed {
			t.Errorf("%x and %x draw the same", seed, other)
		}
		of[l[0]] = seed
	}
}

// E4, P4: what is drawn of one is nothing to another one, of another seed or of the same.
func TestDrawsDoNotMix(t *testing.T) {
	seeds := []uint64{1, 2, 1, 1<<64 - 1, 2}
	var all []*draw.Draws
	for _, seed := range seeds {
		all = append(all, draw.New(seed))
	}
	drawn := make([]int, len(all))
	for round := range 60 {
		at := round * round % 7 % len(all)
		if got := all[at].Next(); got != oughtDraw(seeds[at], uint64(drawn[at])) {
			t.Errorf("round %d: draw %d of %x: %x", round, drawn[at], seeds[at], got)
		}
		drawn[at]++
		draw.New(seeds[at]).Next()
		draw.Secret("user", "anna", seeds[at])
		for i, d := range all {
			if d.Many() != drawn[i] {
				t.Errorf("round %d: %d drawn, not %d", round, d.Many(), drawn[i])
			}
		}
	}
}
