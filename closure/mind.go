package closure

import (
	"slices"

	"letterlock/term"
)

// fact is what is known of a term.
type fact struct {
	kind  byte
	parts []string
	had   bool     // is held, or was taken out of what is had
	made  bool     // can be put together
	in    []string // the terms that it is a part of
	opens []string // the terms that it is the key, or the secret, to
}

// mind is what is known of all terms that stand in what is held, or are asked for. Each term is
// told what follows of it when it comes to be had, and when it comes to be made, and not again:
// so a row of keys, of which each is sealed with another, takes no longer than they are many.
type mind struct {
	facts map[string]fact
	next  []string // what is made, and has yet to be told what follows of it
}

// hold is the mind of one who holds these right terms; what follows of them is not told yet.
func hold(held []string) *mind {
	m := &mind{facts: map[string]fact{}}
	for _, t := range held {
		m.learn(t)
		m.have(t)
	}
	return m
}

// learn takes a right term, and all that stands in it, up among the facts.
func (m *mind) learn(t string) {
	if _, there := m.facts[t]; there {
		return
	}
	parts, _ := term.Parts(t)
	f := fact{kind: term.Kind(t), parts: parts}
	m.facts[t] = f
	for _, p := range parts {
		m.learn(p)
		m.standsIn(p, t)
	}
	if key, ok := m.key(f); ok {
		m.isKeyTo(key, t)
	}
	if f.kind == term.Text {
		m.make(t)
	}
}

func (m *mind) standsIn(part, t string) {
	f := m.facts[part]
	f.in = append(f.in, t)
	m.facts[part] = f
}

func (m *mind) isKeyTo(key, t string) {
	f := m.facts[key]
	f.opens = append(f.opens, t)
	m.facts[key] = f
}

// key is what opens a term: of what is boxed that is not its public part, but the secret of it.
func (m *mind) key(f fact) (string, bool) {
	switch f.kind {
	case term.Sealed:
		return f.parts[0], true
	case term.Boxed:
		return m.facts[f.parts[0]].parts[0], true
	}
	return "", false
}

// have notes that t is had.
func (m *mind) have(t string) {
	f := m.facts[t]
	if f.had {
		return
	}
	f.had, f.made = true, true
	m.facts[t] = f
	m.next = append(m.next, t)
}

// make notes that t can be put together.
func (m *mind) make(t string) {
	f := m.facts[t]
	if f.made {
		return
	}
	f.made = true
	m.facts[t] = f
	m.next = append(m.next, t)
}

// settle tells all that follows, until nothing more does.
func (m *mind) settle() {
	for len(m.next) > 0 {
		last := len(m.next) - 1
		t := m.next[last]
		m.next = m.next[:last]
		m.takeApart(t)
		f := m.facts[t]
		for _, whole := range f.in {
			m.putTogether(whole)
		}
		for _, shut := range f.opens {
			m.takeApart(shut)
		}
	}
}

// takeApart notes what is had of t, if t is had.
func (m *mind) takeApart(t string) {
	f := m.facts[t]
	if !f.had {
		return
	}
	switch f.kind {
	case term.Pair:
		m.have(f.parts[0])
		m.have(f.parts[1])
	case term.Signed:
		m.have(f.parts[1])
	case term.Sealed, term.Boxed:
		if key, ok := m.key(f); ok && m.facts[key].made {
			m.have(f.parts[1])
		}
	}
}

// putTogether notes that t can be put together, if all its parts can.
func (m *mind) putTogether(t string) {
	for _, p := range m.facts[t].parts {
		if !m.facts[p].made {
			return
		}
	}
	m.make(t)
}

// had is all that is had, in the order of its bytes.
func (m *mind) had() []string {
	var l []string
	for t, f := range m.facts {
		if f.had {
			l = append(l, t)
		}
	}
	slices.Sort(l)
	return l
}
