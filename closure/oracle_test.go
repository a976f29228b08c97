package closure_test

import (
	"slices"
	"strings"
)

// The chapter's words, once more and from them alone, for the tests to hold the package against:
// terms are built up of what they are made of, and what is had is sought round by round.

// thing is a right term and what it is made of.
type thing struct {
	kind  byte
	s     string
	parts []*thing
}

func made(kind byte, parts ...*thing) *thing {
	x := &thing{kind: kind, s: string([]byte{kind}), parts: parts}
	for _, p := range parts {
		x.s += p.s
	}
	return x
}

// atom is one of a number from 1 to 255.
func atom(n byte) *thing { return &thing{kind: 'a', s: string([]byte{'a', 1, n})} }

// words are a text of up to 255 bytes, but not of none.
func words(s string) *thing {
	return &thing{kind: 't', s: string([]byte{'t', 1, byte(len(s))}) + s}
}

func pair(x, y *thing) *thing { return made('p', x, y) }

func hash(x *thing) *thing { return made('h', x) }

func seal(key, x *thing) *thing { return made('s', key, x) }

func public(secret *thing) *thing { return made('u', secret) }

// box is x, boxed for who has that secret.
func box(secret, x *thing) *thing { return made('b', public(secret), x) }

func sign(secret, x *thing) *thing { return made('g', secret, x) }

// having is what is had, by its bytes.
type having map[string]*thing

// oughtHave is all that is had of what is held: round by round, until a round finds nothing more.
func oughtHave(held []*thing) having {
	had := having{}
	for _, x := range held {
		had[x.s] = x
	}
	for many := -1; many != len(had); {
		many = len(had)
		for _, x := range had.inOrder() {
			for _, y := range had.takenOut(x) {
				had[y.s] = y
			}
		}
	}
	return had
}

// takenOut is what is had of one thing that is had.
func (had having) takenOut(x *thing) []*thing {
	switch x.kind {
	case 'p':
		return x.parts
	case 'g':
		return x.parts[1:]
	case 's':
		if had.together(x.parts[0]) {
			return x.parts[1:]
		}
	case 'b':
		if had.together(x.parts[0].parts[0]) {
			return x.parts[1:]
		}
	}
	return nil
}

// together tells whether a thing can be put together.
func (had having) together(x *thing) bool {
	if had[x.s] != nil || x.kind == 't' {
		return true
	}
	for _, p := range x.parts {
		if !had.together(p) {
			return false
		}
	}
	return len(x.parts) > 0
}

func (had having) inOrder() []*thing {
	var l []*thing
	for _, x := range had {
		l = append(l, x)
	}
	slices.SortFunc(l, func(x, y *thing) int { return strings.Compare(x.s, y.s) })
	return l
}

// texts are the bytes of things.
func texts(l []*thing) []string {
	s := []string{}
	for _, x := range l {
		s = append(s, x.s)
	}
	return s
}

// atoms are the numbers of all atoms that stand in a thing.
func (x *thing) atoms(tell func(s string)) {
	if x.kind == 'a' {
		tell(x.s)
	}
	for _, p := range x.parts {
		p.atoms(tell)
	}
}

// samples are things of each kind, in many ways of one another, of few atoms, so that keys often fit.
func samples() []*thing {
	a, b, c := atom(1), atom(2), atom(3)
	hi := words("hi")
	return []*thing{
		a, b, c, hi, hash(a), hash(hash(a)), hash(b), hash(hi), public(a), public(b), public(hi), public(public(a)), public(hash(a)),
		pair(a, b), pair(b, a), pair(a, a), pair(hi, pair(hash(a), c)), pair(public(a), hash(b)),
		seal(a, b), seal(b, c), seal(c, a), seal(a, a), seal(hi, c), seal(hash(a), b), seal(hash(hash(a)), b), seal(pair(a, b), c),
		seal(public(a), c), seal(seal(a, b), c), seal(sign(a, hi), c), seal(box(a, b), c), seal(a, seal(b, c)), seal(hash(hi), seal(public(hi), a)),
		box(a, b), box(b, c), box(c, a), box(a, a), box(hi, c), box(hash(a), b), box(public(a), c), box(pair(a, c), b), box(a, box(b, c)), box(seal(a, b), c),
		sign(a, b), sign(b, pair(a, c)), sign(a, hi), sign(hi, c), sign(hash(a), c), sign(a, sign(b, c)), sign(a, seal(b, c)),
	}
}

// dice rolls the same numbers each time.
type dice struct{ n uint64 }

func (d *dice) roll(below int) int {
	d.n = d.n*6364136223846793005 + 1442695040888963407
	return int(d.n>>33) % below
}

// any is a thing of at most that depth.
func (d *dice) any(depth int) *thing {
	kind := "attpphsssubbbgg"[d.roll(15)]
	switch {
	case kind == 't':
		return words(string([]byte{'x' + byte(d.roll(2))}))
	case kind == 'a' || depth <= 1:
		return atom(byte(1 + d.roll(7)))
	case kind == 'h':
		return hash(d.any(depth - 1))
	case kind == 'u':
		return public(d.any(depth - 1))
	case kind == 'b' && depth > 2:
		return box(d.any(depth-2), d.any(depth-1))
	case kind == 'b':
		return box(atom(byte(1+d.roll(7))), d.any(1))
	}
	return made(kind, d.any(depth-1), d.any(depth-1))
}

// some are up to that many things.
func (d *dice) some(many int) []*thing {
	l := make([]*thing, d.roll(many+1))
	for i := range l {
		l[i] = d.any(1 + d.roll(5))
	}
	return l
}
