package wire_test

import (
	"strings"
	"testing"

	"letterlock/api"
	"letterlock/wire"
)

// B1: the bytes of numbers that are written out.
func TestPutOfSomeNumbers(t *testing.T) {
	for n, want := range map[uint64]string{
		0:                  "\x00",
		1:                  "\x01\x01",
		127:                "\x01\x7f",
		128:                "\x01\x80",
		255:                "\x01\xff",
		256:                "\x02\x01\x00",
		258:                "\x02\x01\x02",
		65535:              "\x02\xff\xff",
		65536:              "\x03\x01\x00\x00",
		1<<32 - 1:          "\x04\xff\xff\xff\xff",
		1 << 32:            "\x05\x01\x00\x00\x00\x00",
		1 << 63:            "\x08\x80\x00\x00\x00\x00\x00\x00\x00",
		0x0102030405060708: "\x08\x01\x02\x03\x04\x05\x06\x07\x08",
		1<<64 - 1:          "\x08\xff\xff\xff\xff\xff\xff\xff\xff",
	} {
		if got := wire.Put(n); got != want {
			t.Errorf("Put(%d) = %q", n, got)
		}
	}
}

// B1, B4: numbers are put as the words say, and taken with what stands behind them.
func TestPutAndTakeOfNumbers(t *testing.T) {
	l := edgeNumbers()
	for n := range uint64(70000) {
		l = append(l, n)
	}
	for _, n := range l {
		s := wire.Put(n)
		if s != oughtPut(n) {
			t.Errorf("Put(%d) = %q", n, s)
		}
		for _, behind := range []string{"", "\x00", "\xff", "abc", s} {
			if got, rest, e := wire.Take(s + behind); got != n || rest != behind || e != api.OK {
				t.Errorf("Take(%q) = %d, %q, %v", s+behind, got, rest, e)
			}
		}
	}
}

// B1: what begins with no number: too few bytes of one, at each place.
func TestTakeOfTooFewBytes(t *testing.T) {
	for _, n := range edgeNumbers() {
		s := wire.Put(n)
		for long := range len(s) {
			if got, rest, e := wire.Take(s[:long]); got != 0 || rest != "" || e != api.ErrForm {
				t.Errorf("Take(%q) = %d, %q, %v", s[:long], got, rest, e)
			}
		}
	}
}

// B1: what begins with no number: of too many bytes, or with a first one of 0.
func TestTakeOfAnotherForm(t *testing.T) {
	for many := 9; many < 256; many++ {
		s := string([]byte{byte(many)}) + strings.Repeat("\x01", 300)
		if got, rest, e := wire.Take(s); got != 0 || rest != "" || e != api.ErrForm {
			t.Errorf("%d bytes: %d, %q, %v", many, got, rest, e)
		}
	}
	for many := 1; many <= 8; many++ {
		for _, next := range []string{"\x00", "\x01", "\xff"} {
			s := string([]byte{byte(many), 0}) + strings.Repeat(next, 9)
			if got, rest, e := wire.Take(s); got != 0 || rest != "" || e != api.ErrForm {
				t.Errorf("Take(%q) = %d, %q, %v", s, got, rest, e)
			}
		}
	}
}

// B1, B4: Take of all short texts; what it takes was put so.
func TestTakeOfEachText(t *testing.T) {
	eachText(func(s string) {
		n, rest, e := wire.Take(s)
		if m, behind, f := oughtTake(s); n != m || rest != behind || e != f {
			t.Errorf("Take(%q) = %d, %q, %v", s, n, rest, e)
		}
		if e == api.OK && wire.Put(n)+rest != s {
			t.Errorf("Take(%q) = %d, %q, which was put otherwise", s, n, rest)
		}
	})
}
