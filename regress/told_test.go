package regress_test

import (
	"testing"

	"letterlock/api"
	"letterlock/closure"
	"letterlock/draw"
	"letterlock/regress"
	"letterlock/term"
)

// chain is the states of a root, and their keys.
type chain struct {
	states, keys [8]string
}

func sure(t *testing.T, s string, e api.Errno) string {
	t.Helper()
	if e != api.OK {
		t.Fatal(e)
	}
	return s
}

func chainOf(t *testing.T, root string) chain {
	t.Helper()
	var c chain
	for epoch := range c.states {
		s, e := regress.State(root, epoch)
		c.states[epoch] = sure(t, s, e)
		s, e = regress.Key(c.states[epoch])
		c.keys[epoch] = sure(t, s, e)
	}
	return c
}

// secretRoots are roots that are secrets: drawn, and atoms, and what is made of these.
func secretRoots(t *testing.T) []string {
	t.Helper()
	d, l := draw.New(6), []string{term.OfAtom(1 << 40), "ha\x01\x63", "pa\x01\x63t\x00"}
	for _, who := range []string{"", "anna/notes", "ben/key"} {
		s, e := draw.Secret("root", who, d.Next())
		l = append(l, sure(t, s, e))
	}
	return l
}

// told tells whether who holds those terms can tell that one.
func told(t *testing.T, held []string, s string) bool {
	t.Helper()
	ok, e := closure.Derives(held, s)
	if e != api.OK {
		t.Fatal(e)
	}
	return ok
}

// F4: who holds a state goes back to all earlier ones, and nowhere else.
func TestStateLeadsBack(t *testing.T) {
	for _, root := range secretRoots(t) {
		c := chainOf(t, root)
		for from := range c.states {
			for to := range from + 1 {
				if s, e := regress.Back(c.states[from], from-to); s != c.states[to] || e != api.OK {
					t.Errorf("%q, %d to %d: %q, %v", root, from, to, s, e)
				}
			}
			for steps := range 30 {
				s, e := regress.Back(c.states[from], steps)
				for later := from + 1; later < len(c.states); later++ {
					if s == c.states[later] || e != api.OK {
						t.Errorf("%q: %d steps lead from %d to %d, %v", root, steps, from, later, e)
					}
				}
			}
		}
	}
}

// F4: all states and keys of a chain are others.
func TestStatesAndKeysAreOthers(t *testing.T) {
	of := map[string]int{}
	for _, root := range []string{secretRoots(t)[0], secretRoots(t)[4]} {
		c := chainOf(t, root)
		for epoch := range c.states {
			of[c.states[epoch]]++
			of[c.keys[epoch]]++
		}
	}
	if len(of) != 4*8 {
		t.Errorf("%d, not %d", len(of), 4*8)
	}
}

// beside is what may be held beside a state, of which none helps to a later one: chains of others,
// and what was made with all of this chain's keys, states and root.
func beside(t *testing.T, c chain, root string) []string {
	t.Helper()
	other := chainOf(t, "a\x07another")
	l := append([]string{term.OfAtom(0), "t\x01\x03key"}, other.states[:]...)
	l = append(l, other.keys[:]...)
	say := func(s string, e api.Errno) { l = append(l, sure(t, s, e)) }
	for epoch := range c.states {
		say(term.Seal(c.keys[epoch], "a\x01\x01"))
		say(term.OfPublic(c.states[epoch]))
		say(term.Sign(c.states[epoch], "t\x00"))
		say(term.Sign(c.keys[epoch], c.states[0]))
		say(term.Seal(other.keys[epoch], other.states[epoch]))
	}
	say(term.Seal(root, root))
	return l
}

// F4: who holds a state can tell all earlier ones and their keys, and no later one, nor its key.
func TestWhatAStateTells(t *testing.T) {
	for _, root := range secretRoots(t) {
		c := chainOf(t, root)
		for from, state := range c.states {
			for _, held := range [][]string{{state}, append(beside(t, c, root), state)} {
				for epoch := range c.states {
					if told(t, held, c.states[epoch]) != (epoch <= from) || told(t, held, c.keys[epoch]) != (epoch <= from) {
						t.Errorf("%q: of the state of %d and %d others, that of %d: %v, its key: %v", root, from, len(held)-1, epoch, told(t, held, c.states[epoch]), told(t, held, c.keys[epoch]))
					}
				}
			}
		}
	}
}

// F4: who holds a state opens what was sealed with the keys of earlier epochs, and of its own, alone.
func TestWhatAStateOpens(t *testing.T) {
	for _, root := range secretRoots(t) {
		c := chainOf(t, root)
		var boxes [8]string
		for epoch := range boxes {
			s, e := term.Seal(c.keys[epoch], term.OfAtom(uint64(1000+epoch)))
			boxes[epoch] = sure(t, s, e)
		}
		for from, state := range c.states {
			held := append(boxes[:], state)
			for epoch := range boxes {
				if told(t, held, term.OfAtom(uint64(1000+epoch))) != (epoch <= from) {
					t.Errorf("%q: who holds the state of %d and what was sealed at %d", root, from, epoch)
				}
			}
		}
	}
}

// F4: a key tells no state, not even its own, and no other key.
func TestKeysTellNoState(t *testing.T) {
	for _, root := range secretRoots(t) {
		c := chainOf(t, root)
		for from := range c.keys {
			for epoch := range c.states {
				if told(t, c.keys[:], c.states[epoch]) || told(t, c.keys[from:from+1], c.keys[epoch]) != (epoch == from) {
					t.Errorf("%q: who holds keys, of %d", root, epoch)
				}
			}
			later := append([]string{c.states[from]}, c.keys[from+1:]...)
			for epoch := from + 1; epoch < len(c.states); epoch++ {
				if told(t, later, c.states[epoch]) {
					t.Errorf("%q: the state of %d, and all later keys, tell the state of %d", root, from, epoch)
				}
			}
		}
	}
}

// F4: a root that is no secret keeps nothing: anybody can tell its states and keys.
func TestRootThatIsNoSecret(t *testing.T) {
	c := chainOf(t, "t\x01\x02hi")
	for epoch := range c.states {
		if !told(t, nil, c.states[epoch]) || !told(t, nil, c.keys[epoch]) {
			t.Errorf("of %d", epoch)
		}
	}
}

// P4: the same is answered again, whatever was asked between.
func TestTheSameAgain(t *testing.T) {
	for _, x := range all() {
		s1, e1 := regress.State(x.s, 3)
		b1, f1 := regress.Back(x.s, 2)
		k1, g1 := regress.Key(x.s)
		regress.State("a\x00", 0)
		regress.Back("hha\x00", 90)
		regress.Key("t\x00")
		s2, e2 := regress.State(x.s, 3)
		b2, f2 := regress.Back(x.s, 2)
		k2, g2 := regress.Key(x.s)
		if s1 != s2 || b1 != b2 || k1 != k2 || e1 != e2 || f1 != f2 || g1 != g2 {
			t.Errorf("%.60q: %.60q, %.60q, %.60q, %.60q, %.60q, %.60q", x.s, s1, s2, b1, b2, k1, k2)
		}
	}
}
