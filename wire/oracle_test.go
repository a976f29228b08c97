package wire_test

import (
	"strings"

	"letterlock/api"
)

// The chapter's words, once more and from them alone, for the tests to hold the package against:
// what is taken is sought among all that could have been put.

// digits are a number's bytes without the first one: the greatest part first, and none for 0.
func digits(n uint64) string {
	if n == 0 {
		return ""
	}
	return digits(n/256) + string([]byte{byte(n % 256)})
}

func oughtPut(n uint64) string {
	d := digits(n)
	return string([]byte{byte(len(d))}) + d
}

func oughtPutText(t string) string { return oughtPut(uint64(len(t))) + t }

func oughtPutAll(l []string) string {
	s := oughtPut(uint64(len(l)))
	for _, t := range l {
		s += oughtPutText(t)
	}
	return s
}

// number reads bytes as a number, whatever stands first.
func number(s string) uint64 {
	var n uint64
	for i := range len(s) {
		n = n*256 + uint64(s[i])
	}
	return n
}

func oughtTake(s string) (uint64, string, api.Errno) {
	for long := 1; long <= min(9, len(s)); long++ {
		if n := number(s[1:long]); oughtPut(n) == s[:long] {
			return n, s[long:], api.OK
		}
	}
	return 0, "", api.ErrForm
}

// above tells whether n is above most, one below 0 counting as 0.
func above(n uint64, most int) bool {
	return most <= 0 && n > 0 || most > 0 && n > uint64(most)
}

func oughtTakeText(s string, most int) (string, string, api.Errno) {
	n, rest, e := oughtTake(s)
	if e != api.OK {
		return "", "", e
	}
	if above(n, most) {
		return "", "", api.ErrBig
	}
	for at := 0; at <= len(rest); at++ {
		if uint64(at) == n {
			return rest[:at], rest[at:], api.OK
		}
	}
	return "", "", api.ErrForm
}

func oughtTakeAll(s string, many, most int) ([]string, api.Errno) {
	n, rest, e := oughtTake(s)
	if e != api.OK {
		return nil, e
	}
	if above(n, many) {
		return nil, api.ErrBig
	}
	var l []string
	for uint64(len(l)) < n {
		t, behind, e := oughtTakeText(rest, most)
		if e != api.OK {
			return nil, e
		}
		l, rest = append(l, t), behind
	}
	if len(rest) > 0 {
		return nil, api.ErrForm
	}
	return l, api.OK
}

const (
	least    = -1 << 63
	greatest = 1<<63 - 1
)

// bounds are those that a call may be handed: next to nothing, next to short texts, and all.
var bounds = []int{least, -1, 0, 1, 2, 3, 255, 256, greatest}

// edgeNumbers are those next to which a number's bytes become more.
func edgeNumbers() []uint64 {
	l := []uint64{}
	for bit := range 64 {
		n := uint64(1) << bit
		l = append(l, n-1, n, n+1, n+n-1)
	}
	return append(l, 1<<64-2, 1<<64-1, 0x0102030405060708, 0xF7F6F5F4F3F2F1F0, 0xFF00FF00FF00FF00)
}

// someTexts are of lengths next to which the number of their bytes has more bytes, and of all kinds of bytes.
func someTexts() []string {
	l := []string{"", "\x00", "a", "\xff", "\x01\x01", "\u00e4\u20ac", oughtPutAll([]string{"a", "b"})}
	for _, long := range []int{254, 255, 256, 257, 65535, 65536, 65537} {
		l = append(l, strings.Repeat("\xfe\x00\x01", long)[:long])
	}
	return l
}

// edgeBytes are those at which the forms begin or end.
var edgeBytes = []byte{0, 1, 2, 3, 7, 8, 9, 'a', 0x7F, 0x80, 0xFF}

// eachText tells all texts of up to two bytes, and all of three to five edge bytes.
func eachText(tell func(s string)) {
	tell("")
	for i := range 256 {
		tell(string([]byte{byte(i)}))
		for j := range 256 {
			tell(string([]byte{byte(i), byte(j)}))
		}
	}
	var more func(s string, left int)
	more = func(s string, left int) {
		if len(s) > 2 {
			tell(s)
		}
		if left == 0 {
			return
		}
		for _, b := range edgeBytes {
			more(s+string([]byte{b}), left-1)
		}
	}
	more("", 5)
}
