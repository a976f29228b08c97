package meta_test

import (
	"testing"

	"letterlock/api"
	"letterlock/meta"
)

// checks holds Check against the words, and answers what it is.
func checks(t *testing.T, m meta.Meta, public, owner, file string) api.Errno {
	t.Helper()
	e := meta.Check(m, public, owner, file)
	if want := oughtCheck(m, public, owner, file); e != want {
		t.Errorf("Check(%s, %s, %.40q, %.40q): %v, not %v", show(m), show(public), owner, file, e, want)
	}
	return e
}

// H3: what is checked, written out: the first of the errors is told.
func TestCheck(t *testing.T) {
	m, e := of(notes(1, []string{"ben"}, []string{"cy"})).build()
	if e != api.OK {
		t.Fatal(e)
	}
	same := func(x *meta.Meta) {}
	version := func(x *meta.Meta) { x.Version++ }
	wrong := func(x *meta.Meta) { x.Sig = "x" }
	other := func(x *meta.Meta) { x.Sig = "ga\x01\x02" + x.Sig[len("g"+anna):] }
	for i, c := range []struct {
		change              func(x *meta.Meta)
		public, owner, file string
		want                api.Errno
	}{
		{same, "u" + anna, "anna", "notes", api.OK},
		{same, "u" + anna, "ben", "notes", api.ErrName},
		{same, "u" + anna, "anna", "ben", api.ErrName},
		{same, "u" + anna, "", "", api.ErrName},
		{same, "u" + anna, "notes", "anna", api.ErrName},
		{same, "u" + anna, "Anna", "notes", api.ErrName},
		{same, "u" + anna, "anna", "note", api.ErrName},
		{same, "u" + anna, "anna", "notess", api.ErrName},
		{same, "ua\x01\x02", "anna", "notes", api.ErrSig},
		{same, "uu" + anna, "ben", "notes", api.ErrSig},
		{same, anna, "anna", "notes", api.ErrArg},
		{same, "h" + anna, "anna", "notes", api.ErrArg},
		{same, "", "ben", "notes", api.ErrArg},
		{same, "u" + anna + "x", "ben", "notes", api.ErrArg},
		{same, "u" + deep, "ben", "notes", api.ErrArg},
		{version, "u" + anna, "anna", "notes", api.ErrSig},
		{version, "u" + anna, "ben", "notes", api.ErrSig},
		{version, anna, "anna", "notes", api.ErrArg},
		{wrong, "u" + anna, "anna", "notes", api.ErrArg},
		{wrong, "ua\x01\x02", "ben", "notes", api.ErrArg},
		{other, "u" + anna, "anna", "notes", api.ErrSig},
		{other, "ua\x01\x02", "anna", "notes", api.OK}, // another one said it, and it is that one who is asked for
		{func(x *meta.Meta) { x.Rights.Owner = "dora" }, "u" + anna, "dora", "notes", api.ErrSig},
		{func(x *meta.Meta) { x.Rights.File = "news" }, "u" + anna, "anna", "news", api.ErrSig},
		{func(x *meta.Meta) { x.Rights.Readers, x.Rights.Writers = x.Rights.Writers, x.Rights.Readers }, "u" + anna, "anna", "notes", api.ErrSig},
		{func(x *meta.Meta) { x.Verify[0], x.Verify[1] = x.Verify[1], x.Verify[0] }, "u" + anna, "anna", "notes", api.ErrSig},
		{func(x *meta.Meta) { x.Blocks[1].Box = x.Blocks[0].Box }, "u" + anna, "anna", "notes", api.ErrSig},
		{func(x *meta.Meta) { x.Rights.Readers, x.Blocks = nil, x.Blocks[1:] }, "u" + anna, "anna", "notes", api.ErrSig},
	} {
		x := apart(m)
		c.change(&x)
		if e := checks(t, x, c.public, c.owner, c.file); e != c.want {
			t.Errorf("%d: %v, not %v", i, e, c.want)
		}
	}
}

// H3: what else may be signed than the text of the body, and how else.
func TestSignedOtherwise(t *testing.T) {
	m, _ := of(notes(0, nil, nil)).ought()
	body := oughtBody(m)
	for sig, want := range map[string]api.Errno{
		"g" + anna + text(body):              api.OK,
		"g" + anna + text(body+"\x00"):       api.ErrSig,
		"g" + anna + text(body[1:]):          api.ErrSig,
		"g" + anna + text(""):                api.ErrSig,
		"g" + anna + text(row(body, m.Sig)):  api.ErrSig,
		"g" + anna + "h" + text(body):        api.ErrSig,
		"g" + anna + "p" + text(body) + none: api.ErrSig,
		"ga\x01\x02" + text(body):            api.ErrSig,
		"gu" + anna + text(body):             api.ErrSig,
		"g" + text(body) + anna:              api.ErrSig,
		"g" + anna + "g" + anna + text(body): api.ErrSig,
		"s" + anna + text(body):              api.ErrArg,
		"g" + anna + text(body) + "x":        api.ErrArg,
		"g" + anna + body:                    api.ErrArg,
		"g" + anna + "t\x02\x00\x5e" + body:  api.ErrArg,
	} {
		m.Sig = sig
		if e := checks(t, m, "u"+anna, "anna", "notes"); e != want {
			t.Errorf("%q: %v, not %v", sig, e, want)
		}
	}
}

// H3: a right meta whose body is no right text's, with each signature.
func TestCheckOfAGreatBody(t *testing.T) {
	m, _ := of(notes(0, []string{"ben"}, nil)).ought()
	m.Verify[0] = "u" + words(3995)
	for _, sig := range []string{m.Sig, "g" + anna + none, "g" + anna + words(3990)} {
		m.Sig = sig
		if e := checks(t, m, "u"+anna, "anna", "notes"); e != api.ErrSig || !meta.Right(m) {
			t.Errorf("%v", e)
		}
		checks(t, m, anna, "anna", "notes")
	}
	for long := 3700; long < 3996; long++ { // signed as it must be, as long as that is a right term
		m.Verify[0] = "u" + words(long)
		m.Sig = "g" + anna + text(oughtBody(m))
		checks(t, m, "u"+anna, "anna", "notes")
	}
}

// H3: all metas that are handed in, right or not, by each public term and each name.
func TestCheckAsItOughtToBe(t *testing.T) {
	for _, m := range append(rightMetas(), changed()...) {
		for _, owner := range []string{"anna", "ben", ""} {
			for _, file := range []string{"notes", "anna"} {
				checks(t, m, "u"+anna, owner, file)
			}
		}
		checks(t, m, "ua\x01\x02", "anna", "notes")
		checks(t, m, anna, "anna", "notes")
	}
	for _, m := range rightMetas() {
		for _, x := range terms() {
			checks(t, m, x, "anna", "notes")
			checks(t, m, x, "ben", "notes")
		}
	}
}
