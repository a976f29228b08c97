package name_test

// The chapter's words, once more and from them alone, for the tests to hold the package against:
// nothing here decodes by the language, or by its library.

// span is runes from one to another, both meant.
type span struct{ from, to int32 }

var nameSpans = []span{{'a', 'z'}, {'0', '9'}, {'-', '-'}, {0xDF, 0xF6}, {0xF8, 0xFF}, {0x3B1, 0x3C9}, {0x430, 0x44F}}

var greatSpans = []span{{'A', 'Z'}, {0xC0, 0xD6}, {0xD8, 0xDE}, {0x391, 0x3A1}, {0x3A3, 0x3A9}, {0x410, 0x42F}}

func within(l []span, r int32) bool {
	for _, p := range l {
		if p.from <= r && r <= p.to {
			return true
		}
	}
	return false
}

// canStand tells whether a valid text can have that rune.
func canStand(r int32) bool {
	return r >= 0 && r <= 0x10FFFF && (r < 0xD800 || r > 0xDFFF)
}

// decode tells which rune all of s is, if it is one in its shortest form.
func decode(s string) (int32, bool) {
	if len(s) < 1 || len(s) > 4 {
		return 0, false
	}
	least := [...]int32{0, 0x80, 0x800, 0x10000}[len(s)-1]
	mask := [...]byte{0x80, 0xE0, 0xF0, 0xF8}[len(s)-1]
	head := [...]byte{0x00, 0xC0, 0xE0, 0xF0}[len(s)-1]
	if s[0]&mask != head {
		return 0, false
	}
	r := int32(s[0] &^ mask)
	for i := 1; i < len(s); i++ {
		if s[i]&0xC0 != 0x80 {
			return 0, false
		}
		r = r<<6 | int32(s[i]&0x3F)
	}
	return r, r >= least && canStand(r)
}

// encode is a rune in its shortest form.
func encode(r int32) string {
	switch {
	case r < 0x80:
		return string([]byte{byte(r)})
	case r < 0x800:
		return string([]byte{0xC0 | byte(r>>6), 0x80 | byte(r&0x3F)})
	case r < 0x10000:
		return string([]byte{0xE0 | byte(r>>12), 0x80 | byte(r>>6&0x3F), 0x80 | byte(r&0x3F)})
	}
	return string([]byte{0xF0 | byte(r>>18), 0x80 | byte(r>>12&0x3F), 0x80 | byte(r>>6&0x3F), 0x80 | byte(r&0x3F)})
}

// piece is a rune of a text, or (not right) a byte that is no part of one.
type piece struct {
	rune  int32
	right bool
}

// pieces looks at the bytes of s from the left.
func pieces(s string) []piece {
	var l []piece
	for len(s) > 0 {
		p, long := piece{}, 1
		for n := min(4, len(s)); n >= 1; n-- {
			if r, ok := decode(s[:n]); ok {
				p, long = piece{r, true}, n
				break
			}
		}
		l, s = append(l, p), s[long:]
	}
	return l
}

func oughtRight(s string) bool {
	l := pieces(s)
	for _, p := range l {
		if !p.right || !within(nameSpans, p.rune) {
			return false
		}
	}
	return len(l) >= 1 && len(l) <= 32
}

func oughtRunes(s string) ([]int32, bool) {
	var l []int32
	for _, p := range pieces(s) {
		if !p.right {
			return nil, false
		}
		l = append(l, p.rune)
	}
	return l, true
}

func oughtFold(s string) string {
	out := ""
	for _, p := range pieces(s) {
		switch {
		case !p.right:
			out += "-"
		case within(greatSpans, p.rune):
			out += encode(p.rune + 32)
		default:
			out += encode(p.rune)
		}
	}
	return out
}

// edgeBytes are those next to which the forms of UTF-8, or the spans, begin or end.
var edgeBytes = []byte{0x00, '-', '/', 'A', 'Z', 'a', 0x7F, 0x80, 0x8F, 0x90, 0x9F, 0xA0, 0xA9, 0xB1, 0xBD, 0xBF, 0xC0, 0xC1, 0xC2, 0xC3, 0xCE, 0xCF, 0xD0, 0xDF, 0xE0, 0xED, 0xEE, 0xEF, 0xF0, 0xF4, 0xF5, 0xFF}

// eachText tells all texts of up to two bytes, and all of three and four edge bytes.
func eachText(tell func(s string)) {
	tell("")
	for i := range 256 {
		tell(string([]byte{byte(i)}))
		for j := range 256 {
			tell(string([]byte{byte(i), byte(j)}))
		}
	}
	for _, a := range edgeBytes {
		for _, b := range edgeBytes {
			for _, c := range edgeBytes {
				tell(string([]byte{a, b, c}))
				for _, d := range edgeBytes {
					tell(string([]byte{a, b, c, d}))
				}
			}
		}
	}
}
