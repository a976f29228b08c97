package draw_test

import (
	"math/big"

	"letterlock/api"
)

// The chapter's words, once more and from them alone, for the tests to hold the package against:
// numbers are reckoned without a bound, and what goes beyond 64 bits is taken off after each step.

// around is what is left of a number that goes round.
func around(n *big.Int) *big.Int {
	return n.Mod(n, new(big.Int).Lsh(big.NewInt(1), 64))
}

func number(n uint64) *big.Int { return new(big.Int).SetUint64(n) }

// lower is a number, halved that many times.
func lower(n *big.Int, bits int) *big.Int {
	return new(big.Int).Div(n, new(big.Int).Exp(big.NewInt(2), big.NewInt(int64(bits)), nil))
}

func oughtMix(n uint64) uint64 {
	x := around(new(big.Int).Add(number(n), number(0x9E3779B97F4A7C15)))
	x = x.Xor(x, lower(x, 30))
	x = around(x.Mul(x, number(0xBF58476D1CE4E5B9)))
	x = x.Xor(x, lower(x, 27))
	x = around(x.Mul(x, number(0x94D049BB133111EB)))
	return x.Xor(x, lower(x, 31)).Uint64()
}

// oughtDraw is the draw of a seed that has i ahead of it.
func oughtDraw(seed, i uint64) uint64 {
	x := new(big.Int).Mul(number(i), number(0x9E3779B97F4A7C15))
	return oughtMix(around(x.Add(x, number(seed))).Uint64())
}

// digits are a number's bytes without the first one: the greatest part first, and none for 0.
func digits(n uint64) string {
	if n == 0 {
		return ""
	}
	return digits(n/256) + string([]byte{byte(n % 256)})
}

func oughtNumber(n uint64) string {
	d := digits(n)
	return string([]byte{byte(len(d))}) + d
}

// oughtSecret is the hash of the pair of the text and the atom, which are not too great if it is not.
func oughtSecret(use, who string, n uint64) (string, api.Errno) {
	words := use + ":" + who
	s := "hp" + "t" + oughtNumber(uint64(len(words))) + words + "a" + oughtNumber(n)
	if len(s) > 4000 {
		return "", api.ErrBig
	}
	return s, api.OK
}

// someNumbers are those next to which something becomes another, and some between.
func someNumbers() []uint64 {
	l := []uint64{0, 1<<64 - 1, 0x0102030405060708, 0xFF00FF00FF00FF00, 0x5555555555555555, 0xAAAAAAAAAAAAAAAA}
	for bit := range 64 {
		n := uint64(1) << bit
		l = append(l, n-1, n, n+1, -n)
	}
	step := uint64(0x9E3779B97F4A7C15)
	for i := range uint64(3) { // next to these a mix, or a draw, is made of 0, or goes round
		l = append(l, step-1+i, 2*step-1+i, -step-1+i, -step-step-1+i)
	}
	return l
}
