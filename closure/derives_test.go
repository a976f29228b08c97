package closure_test

import (
	"slices"
	"strings"
	"testing"

	"letterlock/api"
	"letterlock/closure"
)

// D2: what can be put together, written out.
func TestDerives(t *testing.T) {
	const a, b, c, x = "a\x00", "a\x01\x01", "a\x01\x02", "t\x01\x01x"
	for i, d := range []struct {
		held []string
		t    string
		want bool
	}{
		{nil, x, true}, {nil, "t\x00", true}, {nil, a, false}, {[]string{}, "p" + x + x, true}, {nil, "h" + x, true}, {nil, "h" + a, false},
		{nil, "s" + x + x, true}, {nil, "u" + x, true}, {nil, "bu" + x + x, true}, {nil, "g" + x + x, true}, {nil, "p" + x + a, false},
		{[]string{a}, a, true}, {[]string{a}, b, false}, {[]string{a}, "h" + a, true}, {[]string{"h" + a}, "h" + a, true}, {[]string{"h" + a}, a, false}, {[]string{"h" + a}, "hh" + a, true},
		{[]string{a, b}, "p" + b + a, true}, {[]string{a}, "p" + b + a, false}, {[]string{a}, "p" + a + b, false}, {[]string{a}, "p" + a + a, true}, {[]string{"p" + a + b}, "p" + b + a, true},
		{[]string{a}, "u" + a, true}, {[]string{"u" + a}, a, false}, {[]string{"u" + a}, "u" + a, true}, {[]string{"u" + a}, "uu" + a, true},
		{[]string{"u" + a, b}, "bu" + a + b, true}, {[]string{"u" + a}, "bu" + a + b, false}, {[]string{a, b}, "bu" + a + b, true}, {[]string{b}, "bu" + a + b, false},
		{[]string{"u" + a, b}, "g" + a + b, false}, {[]string{a, b}, "g" + a + b, true}, {[]string{a}, "g" + a + b, false}, {[]string{"g" + a + b}, "g" + a + b, true}, {[]string{"g" + a + b}, b, true}, {[]string{"g" + a + b}, a, false},
		{[]string{"g" + a + b}, "g" + a + x, false}, {[]string{"g" + a + b, c}, "g" + a + c, false},
		{[]string{a, b}, "s" + a + b, true}, {[]string{a}, "s" + a + b, false}, {[]string{b}, "s" + a + b, false}, {[]string{"s" + a + b}, "s" + a + b, true}, {[]string{"s" + a + b}, b, false}, {[]string{"s" + a + b}, a, false},
		{[]string{"s" + a + b, a}, b, true}, {[]string{"bu" + a + b, a}, b, true}, {[]string{"bu" + a + b, "u" + a}, b, false}, {[]string{"bu" + a + b}, "u" + a, false},
		{[]string{"sp" + a + b + c, "p" + b + a}, c, true}, {[]string{"s" + a + b, "s" + b + c, a}, "p" + c + "h" + b, true}, {[]string{"s" + a + b, "s" + b + c}, c, false},
		{[]string{"h" + a, "sh" + a + b}, "ph" + b + "u" + b, true}, {[]string{"hp" + a + b}, "hp" + a + b, true}, {[]string{"hp" + a + b}, "hp" + b + a, false},
	} {
		if got, e := closure.Derives(d.held, d.t); got != d.want || e != api.OK {
			t.Errorf("%d: %v, %v", i, got, e)
		}
	}
}

// D2: Apart's errors stand ahead of that of what is asked for.
func TestErrorsOfDerives(t *testing.T) {
	const a = "a\x00"
	many := slices.Repeat([]string{a}, closure.MaxHeld+1)
	if ok, e := closure.Derives(many, a); ok || e != api.ErrBig {
		t.Errorf("too many: %v, %v", ok, e)
	}
	if ok, e := closure.Derives(many[1:], a); !ok || e != api.OK {
		t.Errorf("just as many: %v, %v", ok, e)
	}
	for _, wrong := range wrongTexts() {
		if ok, e := closure.Derives(many, wrong); ok || e != api.ErrBig {
			t.Errorf("too many, and %.30q: %v, %v", wrong, ok, e)
		}
		for _, held := range [][]string{nil, {a}, many[1:]} {
			if ok, e := closure.Derives(held, wrong); ok || e != api.ErrArg {
				t.Errorf("%.30q of %d: %v, %v", wrong, len(held), ok, e)
			}
			if ok, e := closure.Derives(append([]string{wrong}, held...), a); ok || e != api.ErrArg {
				t.Errorf("%.30q and %d: %v, %v", wrong, len(held), ok, e)
			}
		}
	}
	many[closure.MaxHeld] = "x"
	if ok, e := closure.Derives(many, a); ok || e != api.ErrArg {
		t.Errorf("too many, one of them wrong: %v, %v", ok, e)
	}
}

// derivesAsOught holds Derives against the chapter's words.
func derivesAsOught(t *testing.T, held []*thing, asked ...*thing) {
	t.Helper()
	had := oughtHave(held)
	for _, x := range asked {
		if got, e := closure.Derives(texts(held), x.s); got != had.together(x) || e != api.OK {
			t.Errorf("%q of %q: %v, %v", x.s, texts(held), got, e)
		}
	}
}

// D2: each sample of each two.
func TestDerivesOfSamples(t *testing.T) {
	l := samples()
	derivesAsOught(t, nil, l...)
	for i, x := range l {
		for _, y := range l[i:] {
			derivesAsOught(t, []*thing{x, y}, l...)
		}
	}
}

// D2: things that are made by dice, and the parts of what is held.
func TestDerivesOfManyThings(t *testing.T) {
	d := &dice{2}
	for range 2000 {
		held := d.some(12)
		for range 8 {
			derivesAsOught(t, held, d.any(1+d.roll(4)))
		}
		for _, x := range held {
			derivesAsOught(t, held, x)
			derivesAsOught(t, held, x.parts...)
		}
	}
}

// D3: who holds more can put together no less.
func TestMoreIsNoLess(t *testing.T) {
	d := &dice{3}
	for range 1500 {
		held, more, x := texts(d.some(8)), texts(d.some(4)), d.any(1+d.roll(3)).s
		before, _ := closure.Derives(held, x)
		after, _ := closure.Derives(append(more, held...), x)
		if before && !after {
			t.Errorf("%q of %q, but not with %q", x, held, more)
		}
		l, _ := closure.Apart(append(more, held...))
		less, _ := closure.Apart(held)
		for _, y := range less {
			if !slices.Contains(l, y) {
				t.Errorf("%q is had of %q, but not with %q", y, held, more)
			}
		}
	}
}

// D3: what can be put together, and is held, too, makes nothing more that can be.
func TestHeldTooMakesNothingMore(t *testing.T) {
	d := &dice{4}
	l := texts(samples())
	for range 400 {
		held, more := texts(d.some(8)), []string{}
		for range 20 {
			x := d.any(1 + d.roll(4)).s
			if ok, _ := closure.Derives(held, x); ok {
				more = append(more, x)
			}
		}
		for _, x := range l {
			before, _ := closure.Derives(held, x)
			after, _ := closure.Derives(append(more, held...), x)
			if before != after {
				t.Errorf("%q of %q: %v, but with %q %v", x, held, before, more, after)
			}
		}
	}
}

// D3: an atom that stands nowhere in what is held cannot be put together.
func TestAtomThatStandsNowhere(t *testing.T) {
	d := &dice{5}
	for range 1500 {
		held := d.some(12)
		there := map[string]bool{}
		for _, x := range held {
			x.atoms(func(s string) { there[s] = true })
		}
		for n := range byte(9) {
			x := atom(1 + n).s
			if ok, _ := closure.Derives(texts(held), x); ok && !there[x] {
				t.Errorf("%q of %q", x, texts(held))
			}
		}
	}
}

// D2: of what is as deep, and as long, as a term can be.
func TestDerivesOfGreatTerms(t *testing.T) {
	a, b := atom(1), atom(2)
	deep := a
	for range 39 {
		deep = hash(deep)
	}
	nested := b
	for range 39 {
		nested = seal(a, nested)
	}
	boxes := b
	for range 38 {
		boxes = box(a, boxes)
	}
	long := pair(a, words(strings.Repeat("x", 255)))
	for len(long.s) < 3700 {
		long = pair(words(strings.Repeat("x", 255)), long)
	}
	for _, held := range [][]*thing{nil, {a}, {b}, {deep}, {nested}, {nested, a}, {boxes}, {boxes, a}, {boxes, nested, public(a)}, {deep, nested, boxes, long}, {long, boxes}} {
		agrees(t, held)
		derivesAsOught(t, held, a, b, deep, deep.parts[0], nested, nested.parts[1], boxes, boxes.parts[1], long, long.parts[0])
	}
}
