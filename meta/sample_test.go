package meta_test

import (
	"slices"
	"strings"

	"letterlock/api"
	"letterlock/draw"
	"letterlock/meta"
	"letterlock/rights"
)

// longest is a name of the most runes, of the most bytes.
var longest = strings.Repeat("\u044f", 32)

// people are names that rise, anna's between them, and of each script.
var people = []string{"-", "ben", "cy", "z", "\u00df", longest}

// anna is her secret.
const anna = "a\x01\x01"

// secretOf is a user's secret, of more than one kind of term.
func secretOf(user string) string {
	switch user {
	case "anna":
		return anna
	case "ben":
		return "a\x01\x02"
	case "cy":
		return "pt\x01\x02cya\x01\x03"
	}
	s, _ := draw.Secret("user", user, 77)
	return s
}

// all are whom everybody knows: not in order, with others, and, behind the first of a name, a wrong one.
func all() []meta.Known {
	var l []meta.Known
	for _, n := range people {
		l = append([]meta.Known{{Name: n, Public: "u" + secretOf(n)}}, l...)
	}
	l = append(l, meta.Known{Name: "cy", Public: "x"}, meta.Known{Name: "", Public: ""}, meta.Known{Name: "be", Public: "a\x00"})
	return append(l, meta.Known{Name: "anna", Public: "u" + anna}, meta.Known{Name: "ben", Public: "u" + anna})
}

// signers are secrets of that many epochs and one more.
func signers(epoch int) []string {
	var l []string
	for i := range epoch + 1 {
		s, _ := draw.Secret("sign", "anna/notes", uint64(100+i)) // numbers that no secret of a user has
		l = append(l, s)
	}
	return l
}

// notes are rights of anna's notes.
func notes(epoch int, readers, writers []string) api.Rights {
	return api.Rights{Owner: "anna", File: "notes", Epoch: epoch, Readers: readers, Writers: writers}
}

// of is what a meta of rights can be built of.
func of(r api.Rights) given {
	return given{anna, r, 5, "a\x01\x09", signers(r.Epoch), all()}
}

// eachWay are right rights of anna's notes with each way to make some of the people readers and writers.
func eachWay(epoch int) []api.Rights {
	l := []api.Rights{notes(epoch, nil, nil)}
	for _, n := range people {
		for _, r := range l {
			reads, writes := r, r
			reads.Readers, writes.Writers = append(slices.Clone(r.Readers), n), append(slices.Clone(r.Writers), n)
			l = append(l, reads, writes)
		}
	}
	return slices.DeleteFunc(l, func(r api.Rights) bool { return !rights.Right(r) })
}

// some are rights of few and of many others, and of the first, a middle and the last epoch.
func some() []api.Rights {
	var l []api.Rights
	for _, epoch := range []int{0, 3, 7} {
		l = append(l, notes(epoch, nil, nil), notes(epoch, people[1:2], nil), notes(epoch, nil, people[2:3]), notes(epoch, people[2:3], people[1:2]),
			notes(epoch, people[1:2], people[2:3]), notes(epoch, people[:5], []string{}), notes(epoch, nil, people[1:]),
			notes(epoch, []string{"-", "z", longest}, []string{"ben", "\u00df"}))
	}
	return l
}

// wrongTerms are texts that are no right term, whole; deep is a right one that no other can be made of.
var wrongTerms = []string{"", "x", "a", "a\x01", "a\x01\x00", "a\x00x", "pa\x00", "t\x01\x02a", "ba\x00a\x00", "h" + deep, words(3997), "\xff", " a\x00"}

var deep = strings.Repeat("h", 39) + "a\x01\x08"

// words is a term that is a text of more than 255 bytes.
func words(long int) string { return text(strings.Repeat("x", long)) }

// rightTerms are right terms of each kind, flat and deep, short and long.
var rightTerms = []string{
	"a\x00", "a\x01\x05", "t\x00", "t\x01\x02hi", "pa\x00t\x00", "ha\x00", "sa\x00a\x01\x01", "ua\x01\x01", "uua\x00", "bua\x00a\x00", "bua\x01\x02pt\x00t\x00",
	"ga\x00t\x00", "ga\x01\x01t\x01\x01x", deep, "u" + deep[1:], "g" + deep[1:] + "t\x00", "bu" + deep[2:] + "a\x00", words(3996), "u" + words(3995), "bua\x00" + words(3992), "ga\x00" + words(3993),
}

// terms are all of these.
func terms() []string { return slices.Concat(wrongTerms, rightTerms) }

// rightMetas are right ones: built ones, and some that nobody would build.
func rightMetas() []meta.Meta {
	var l []meta.Meta
	for _, r := range some() {
		m, _ := of(r).ought()
		l = append(l, m)
		for _, t := range rightTerms {
			x := apart(m)
			switch t[0] {
			case 'u':
				x.Verify[0] = t
			case 'g':
				x.Sig = t
			case 'b':
				for i := range x.Blocks {
					x.Blocks[i].Box = t
				}
			default:
				continue
			}
			l = append(l, x)
		}
	}
	return l
}

// changes are of each part of a meta, at each of its places.
func changes(m meta.Meta) []func(x *meta.Meta) {
	var l []func(x *meta.Meta)
	change := func(f func(x *meta.Meta)) { l = append(l, f) }
	for _, t := range terms() {
		change(func(x *meta.Meta) { x.Sig = t })
		for i := range m.Verify {
			change(func(x *meta.Meta) { x.Verify[i] = t })
		}
		for i := range m.Blocks {
			change(func(x *meta.Meta) { x.Blocks[i].Box = t })
		}
	}
	for i := range m.Verify {
		change(func(x *meta.Meta) { x.Verify = slices.Delete(x.Verify, i, i+1) })
		change(func(x *meta.Meta) { x.Verify = slices.Insert(x.Verify, i, x.Verify[i]) })
		change(func(x *meta.Meta) { x.Verify[i], x.Verify[0] = x.Verify[0], x.Verify[i] })
	}
	for i := range m.Blocks {
		change(func(x *meta.Meta) { x.Blocks = slices.Delete(x.Blocks, i, i+1) })
		change(func(x *meta.Meta) { x.Blocks = slices.Insert(x.Blocks, i, x.Blocks[i]) })
		change(func(x *meta.Meta) { x.Blocks[i], x.Blocks[0] = x.Blocks[0], x.Blocks[i] })
		for _, user := range []string{"", "anna", "Ben", "bena", "be", "\xff", m.Blocks[0].User, m.Blocks[i].User + "a"} {
			change(func(x *meta.Meta) { x.Blocks[i].User = user })
		}
	}
	for _, user := range []string{"!", "-", "anna", "d", "\u044f"} {
		change(func(x *meta.Meta) { x.Blocks = append(x.Blocks, meta.Block{User: user, Box: "bua\x00a\x00"}) })
		change(func(x *meta.Meta) { x.Rights.Readers = append(x.Rights.Readers, user) })
		change(func(x *meta.Meta) { x.Rights.Writers = append(x.Rights.Writers, user) })
		change(func(x *meta.Meta) { x.Rights.Owner = user })
		change(func(x *meta.Meta) { x.Rights.File = user })
	}
	for _, n := range []int{-1, 1, 2, 8, 1 << 32, -1 << 63} {
		change(func(x *meta.Meta) { x.Rights.Epoch += n })
	}
	for _, n := range []uint64{0, 1, 6, 255, 256, 1 << 63, 1<<64 - 1} {
		change(func(x *meta.Meta) { x.Version = n })
	}
	change(func(x *meta.Meta) { x.Verify = nil })
	change(func(x *meta.Meta) { x.Blocks = nil })
	change(func(x *meta.Meta) { x.Rights.Readers, x.Rights.Writers = x.Rights.Writers, x.Rights.Readers })
	change(func(x *meta.Meta) { x.Rights.Readers, x.Rights.Writers = nil, nil })
	change(func(x *meta.Meta) { x.Rights = api.Rights{} })
	change(func(x *meta.Meta) { *x = meta.Meta{} })
	return l
}

// changed are metas, built ones and others, each with one change: some right, some not.
func changed() []meta.Meta {
	var l []meta.Meta
	for _, r := range some() {
		m, _ := of(r).ought()
		for _, change := range changes(m) {
			x := apart(m)
			change(&x)
			l = append(l, x)
		}
	}
	return l
}
