package meta_test

import (
	"slices"
	"strings"
	"testing"

	"letterlock/api"
	"letterlock/meta"
)

// opens holds Open against the words, and answers what it is.
func opens(t *testing.T, m meta.Meta, user, secret string) (string, string, api.Errno) {
	t.Helper()
	state, signer, e := meta.Open(m, user, secret)
	if s, g, f := oughtOpen(m, user, secret); state != s || signer != g || e != f {
		t.Errorf("Open(%s, %.40q, %s): %s, %s, %v; not %s, %s, %v", show(m), user, show(secret), show(state), show(signer), e, show(s), show(g), f)
	}
	return state, signer, e
}

// H4: blocks that are opened, and not, written out.
func TestOpen(t *testing.T) {
	m, e := of(notes(4, []string{"ben"}, []string{"cy"})).build()
	if e != api.OK {
		t.Fatal(e)
	}
	const ben, cy, state = "a\x01\x02", "pt\x01\x02cya\x01\x03", "hhha\x01\x09"
	last := signers(4)[4]
	for i, c := range []struct {
		user, secret, state, signer string
		want                        api.Errno
	}{
		{"ben", ben, state, "", api.OK}, {"cy", cy, state, last, api.OK},
		{"ben", cy, "", "", api.ErrSig}, {"cy", ben, "", "", api.ErrSig}, {"ben", anna, "", "", api.ErrSig}, {"ben", "u" + ben, "", "", api.ErrSig}, {"ben", "a\x00", "", "", api.ErrSig}, {"ben", deep, "", "", api.ErrSig}, {"ben", words(3996), "", "", api.ErrSig},
		{"anna", anna, "", "", api.ErrDenied}, {"z", secretOf("z"), "", "", api.ErrDenied}, {"", ben, "", "", api.ErrDenied}, {"Ben", ben, "", "", api.ErrDenied}, {"be", ben, "", "", api.ErrDenied}, {"benn", ben, "", "", api.ErrDenied}, {"\xff", ben, "", "", api.ErrDenied}, {"ben\x00", ben, "", "", api.ErrDenied}, {strings.Repeat("z", 1<<16), ben, "", "", api.ErrDenied},
		{"ben", "", "", "", api.ErrArg}, {"ben", "x", "", "", api.ErrArg}, {"ben", ben + "x", "", "", api.ErrArg}, {"z", "x", "", "", api.ErrArg}, {"anna", "", "", "", api.ErrArg}, {"ben", "h" + deep, "", "", api.ErrArg}, {"ben", words(3997), "", "", api.ErrArg},
	} {
		if state, signer, e := opens(t, m, c.user, c.secret); state != c.state || signer != c.signer || e != c.want {
			t.Errorf("%d: %q, %q, %v", i, state, signer, e)
		}
	}
}

// H4: what a box may hold: a pair of anything is opened, and a text in it is no signer, whatever its words are.
func TestWhatABoxHolds(t *testing.T) {
	m, _ := of(notes(0, []string{"ben"}, []string{"cy"})).ought()
	inside := append(slices.Clone(rightTerms), "pa\x00a\x01\x01", "pt\x00t\x01\x01x", "pt\x01\x02hit\x00", "ppa\x00t\x00t\x01\x02hi", "pa\x00pt\x00t\x00", "pa\x00ht\x00", "pa\x00ga\x00t\x00", "ppa\x00a\x01\x01pa\x00a\x01\x02")
	opened, texts, none := 0, 0, 0
	for _, x := range inside {
		for _, public := range []string{"ua\x01\x02", "u" + anna, "uua\x01\x02"} {
			box := "b" + public + x
			if !isTerm(box, "b") {
				continue
			}
			for i := range m.Blocks {
				y := apart(m)
				y.Blocks[i].Box = box
				state, signer, e := opens(t, y, y.Blocks[i].User, "a\x01\x02")
				switch {
				case public != "ua\x01\x02" || x[0] != 'p':
					if e != api.ErrSig {
						t.Errorf("%q: %v", box, e)
					}
					none++
				case signer == "":
					texts++
				default:
					opened++
				}
				if e == api.OK && (!strings.HasPrefix(x[1:], state) || signer != "" && x != "p"+state+signer) {
					t.Errorf("%q: %q, %q", box, state, signer)
				}
			}
		}
	}
	if opened < 10 || texts < 8 || none < 30 {
		t.Error(opened, texts, none)
	}
}

// H4: all metas that are handed in, right or not, by each user and each secret.
func TestOpenAsItOughtToBe(t *testing.T) {
	for _, m := range append(rightMetas(), changed()...) {
		for _, user := range append([]string{"anna", ""}, people...) {
			opens(t, m, user, secretOf(user))
			opens(t, m, user, "x")
		}
		opens(t, m, "ben", secretOf("cy"))
		opens(t, m, "ben", "a\x00")
	}
	for _, m := range rightMetas()[:12] {
		for _, x := range terms() {
			opens(t, m, "ben", x)
			opens(t, m, "cy", x)
			opens(t, m, "anna", x)
		}
	}
}
