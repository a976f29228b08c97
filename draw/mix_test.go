package draw_test

import (
	"testing"

	"letterlock/draw"
)

// E1: numbers that are written out.
func TestMixOfSomeNumbers(t *testing.T) {
	for n, want := range map[uint64]uint64{
		0:                  0xE220A8397B1DCDAF,
		0x9E3779B97F4A7C15: 0x6E789E6AA1B965F4,
		0x3C6EF372FE94F82A: 0x06C45D188009454F,
		0xDAA66D2C7DDF743F: 0xF88BB8A8724C81EC,
		0x61C8864680B583EB: 0, // what goes round to 0 is mixed to 0
	} {
		if got := draw.Mix(n); got != want {
			t.Errorf("Mix(%x) = %x", n, got)
		}
	}
}

// E1: numbers next to each power of two, as the words say.
func TestMixAsItOughtToBe(t *testing.T) {
	for _, n := range someNumbers() {
		if got := draw.Mix(n); got != oughtMix(n) {
			t.Errorf("Mix(%x) = %x", n, got)
		}
	}
}

// E1: a long row of numbers, each mixed of the one ahead of it, and of each bit of it turned.
func TestMixOfMixed(t *testing.T) {
	n := uint64(1)
	for range 500 {
		for bit := range 64 {
			turned := n ^ 1<<bit
			if got := draw.Mix(turned); got != oughtMix(turned) {
				t.Errorf("Mix(%x) = %x", turned, got)
			}
		}
		n = draw.Mix(n)
	}
}

// E1, P4: the same is mixed to the same, whatever was asked between.
func TestMixOfTheSame(t *testing.T) {
	l := someNumbers()
	first := make([]uint64, len(l))
	for i, n := range l {
		first[i] = draw.Mix(n)
	}
	draw.New(3).Next()
	for i := len(l) - 1; i >= 0; i-- {
		if got := draw.Mix(l[i]); got != first[i] {
			t.Errorf("Mix(%x) = %x, and %x", l[i], first[i], got)
		}
	}
}
