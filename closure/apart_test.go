package closure_test

import (
	"slices"
	"strings"
	"testing"

	"letterlock/api"
	"letterlock/closure"
)

// wrongTexts are no right terms, each in its way.
func wrongTexts() []string {
	return []string{
		"", "x", "a", "a\x01", "a\x01\x00", "a\x00a\x00", "a\x00 ", "t\x01\x02x", "pa\x00", "ba\x00a\x00", "bha\x00a\x00",
		strings.Repeat("h", 40) + "a\x00", "t\x02\x0f\x9d" + strings.Repeat("x", 3997),
	}
}

// D1: what is had, written out.
func TestApart(t *testing.T) {
	const a, b, c, x = "a\x00", "a\x01\x01", "a\x01\x02", "t\x01\x01x"
	for i, d := range []struct{ held, want []string }{
		{nil, nil},
		{[]string{}, nil},
		{[]string{a}, []string{a}},
		{[]string{x}, []string{x}},
		{[]string{c, b, a, b, a}, []string{a, b, c}},
		{[]string{"p" + a + b}, []string{a, b, "p" + a + b}},
		{[]string{"p" + a + a}, []string{a, "p" + a + a}},
		{[]string{"pp" + c + a + x}, []string{a, c, "p" + c + a, "pp" + c + a + x, x}},
		{[]string{"h" + a}, []string{"h" + a}},
		{[]string{"hp" + a + b}, []string{"hp" + a + b}},
		{[]string{"u" + a}, []string{"u" + a}},
		{[]string{"g" + a + b}, []string{b, "g" + a + b}},
		{[]string{"g" + a + "p" + b + c}, []string{b, c, "g" + a + "p" + b + c, "p" + b + c}},
		{[]string{"s" + a + b}, []string{"s" + a + b}},
		{[]string{"s" + a + b, a}, []string{a, b, "s" + a + b}},
		{[]string{"s" + a + b, b}, []string{b, "s" + a + b}},
		{[]string{"s" + x + b}, []string{b, "s" + x + b}},
		{[]string{"s" + a + a}, []string{"s" + a + a}},
		{[]string{"sp" + a + b + c, a, b}, []string{a, b, c, "sp" + a + b + c}},
		{[]string{"sp" + a + b + c, a}, []string{a, "sp" + a + b + c}},
		{[]string{"sh" + a + b, "h" + a}, []string{b, "h" + a, "sh" + a + b}},
		{[]string{"sh" + a + b, a}, []string{a, b, "sh" + a + b}},
		{[]string{"shh" + a + b, "h" + a}, []string{b, "h" + a, "shh" + a + b}},
		{[]string{"sh" + a + b, "hh" + a}, []string{"hh" + a, "sh" + a + b}},
		{[]string{"sg" + a + b + c, "g" + a + b}, []string{b, c, "g" + a + b, "sg" + a + b + c}},
		{[]string{"bu" + a + b}, []string{"bu" + a + b}},
		{[]string{"bu" + a + b, a}, []string{a, b, "bu" + a + b}},
		{[]string{"bu" + a + b, "u" + a}, []string{"bu" + a + b, "u" + a}},
		{[]string{"bu" + a + b, b}, []string{b, "bu" + a + b}},
		{[]string{"bu" + x + b}, []string{b, "bu" + x + b}},
		{[]string{"buu" + a + b, "u" + a}, []string{b, "buu" + a + b, "u" + a}},
		{[]string{"buu" + a + b, "uu" + a}, []string{"buu" + a + b, "uu" + a}},
		{[]string{"s" + b + c, "s" + a + b, a}, []string{a, b, c, "s" + a + b, "s" + b + c}},
		{[]string{"s" + b + a, "s" + a + b}, []string{"s" + a + b, "s" + b + a}},
		{[]string{"s" + b + a, "bu" + a + b, "g" + c + a}, []string{a, b, "bu" + a + b, "g" + c + a, "s" + b + a}},
		{[]string{a, "s" + a + "bu" + b + c, b}, []string{a, b, c, "bu" + b + c, "s" + a + "bu" + b + c}},
	} {
		if l, e := closure.Apart(d.held); !slices.Equal(l, d.want) || e != api.OK {
			t.Errorf("%d: %q, %v", i, l, e)
		}
	}
}

// D1: wrong terms at each place, and more than may be held: ErrArg stands ahead of ErrBig.
func TestErrorsOfApart(t *testing.T) {
	many := slices.Repeat([]string{"a\x00"}, closure.MaxHeld+1)
	if l, e := closure.Apart(many); len(l) != 0 || e != api.ErrBig {
		t.Errorf("%d terms: %q, %v", len(many), l, e)
	}
	if l, e := closure.Apart(many[1:]); !slices.Equal(l, many[:1]) || e != api.OK {
		t.Errorf("%d terms: %q, %v", len(many)-1, l, e)
	}
	for _, wrong := range wrongTexts() {
		for _, long := range []int{1, 2, closure.MaxHeld, closure.MaxHeld + 1} {
			for _, at := range []int{0, long / 2, long - 1} {
				held := slices.Clone(many[:long])
				held[at] = wrong
				if l, e := closure.Apart(held); len(l) != 0 || e != api.ErrArg {
					t.Errorf("%.30q at %d of %d: %q, %v", wrong, at, long, l, e)
				}
			}
		}
	}
}

// D1: the bound is the one that the chapter names, and counts what is held, not what is had.
func TestMaxHeld(t *testing.T) {
	if closure.MaxHeld != 200 {
		t.Error(closure.MaxHeld)
	}
	var held []*thing
	for i := range 200 {
		held = append(held, pair(atom(byte(1+i)), words(strings.Repeat("x", 1+i))))
	}
	if l, e := closure.Apart(texts(held)); !slices.Equal(l, texts(oughtHave(held).inOrder())) || len(l) != 600 || e != api.OK {
		t.Errorf("%d, %v", len(l), e)
	}
}

// agrees holds Apart against the chapter's words.
func agrees(t *testing.T, held []*thing) {
	t.Helper()
	want := texts(oughtHave(held).inOrder())
	if l, e := closure.Apart(texts(held)); !slices.Equal(l, want) || e != api.OK {
		t.Errorf("of %q: %q, %v; not %q", texts(held), l, e, want)
	}
}

// D1: each one, each two and each three samples.
func TestApartOfSamples(t *testing.T) {
	l := samples()
	for i, x := range l {
		agrees(t, []*thing{x})
		for j, y := range l {
			agrees(t, []*thing{x, y})
			for k := max(i, j) + 1; k < len(l) && i < j; k++ {
				agrees(t, []*thing{l[k], x, y})
			}
		}
	}
}

// D1: many things, made by dice.
func TestApartOfManyThings(t *testing.T) {
	d := &dice{1}
	for range 4000 {
		agrees(t, d.some(14))
	}
}
