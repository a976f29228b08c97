package user_test

import (
	"slices"

	"letterlock/api"
	"letterlock/draw"
	"letterlock/meta"
	"letterlock/name"
	"letterlock/user"
)

// The chapter's words, once more and from them alone, for the tests to hold the package against: what
// was done without an error is a row, each answer is told by going through all of it from its beginning,
// and secrets are put together by hand.

// event is a change of a file: 'c' creates it, 'g' grants and 'k' revokes a right to it, 'm' removes it.
type event struct {
	do        byte
	file, who string
	write     bool
}

type ought struct {
	name string
	seed uint64
	done []event
}

// oughtSecret is a secret of that many draws ahead: the hash of the pair of a text and an atom.
func (o *ought) oughtSecret(use, who string, ahead uint64) string {
	words := use + ":" + who
	return "hpt" + number(uint64(len(words))) + words + "a" + number(draw.Mix(o.seed+ahead*0x9E3779B97F4A7C15))
}

// number is a number's bytes.
func number(n uint64) string {
	s := ""
	for ; n > 0; n /= 256 {
		s = string([]byte{byte(n % 256)}) + s
	}
	return string([]byte{byte(len(s))}) + s
}

func (o *ought) secret() string { return o.oughtSecret("user", o.name, 0) }

// own is what is held of a file; what goes on behind a removed one is its version alone.
func (o *ought) own(file string) (user.Owned, api.Errno) {
	x, there := user.Owned{}, false
	path, draws := o.name+"/"+file, uint64(1)
	for _, d := range o.done {
		ahead := draws
		switch d.do {
		case 'c':
			draws += 2
		case 'k':
			draws++
		}
		if d.file != file {
			continue
		}
		switch d.do {
		case 'c':
			x = user.Owned{Rights: api.Rights{Owner: o.name, File: file}, Version: x.Version + 1, Root: o.oughtSecret("root", path, ahead), Signers: []string{o.oughtSecret("sign", path, ahead+1)}}
			there = true
		case 'g':
			grant(&x.Rights, d.who, d.write)
			x.Version++
		case 'k':
			is := func(n string) bool { return n == d.who }
			x.Rights.Readers, x.Rights.Writers = slices.DeleteFunc(x.Rights.Readers, is), slices.DeleteFunc(x.Rights.Writers, is)
			x.Rights.Epoch++
			x.Version++
			x.Signers = append(x.Signers, o.oughtSecret("sign", path, ahead))
		case 'm':
			there = false
		}
	}
	if !there {
		return user.Owned{}, api.ErrNone
	}
	return x, api.OK
}

func grant(r *api.Rights, who string, write bool) {
	l := &r.Readers
	if write {
		l = &r.Writers
	}
	*l = append(*l, who)
	slices.Sort(*l)
}

// files puts each name that it meets ahead of the first one that does not stand ahead of it, by bytes.
func (o *ought) files() []string {
	var l []string
	for _, d := range o.done {
		_, e := o.own(d.file)
		at := 0
		for at < len(l) && l[at] < d.file {
			at++
		}
		if e == api.OK && (at == len(l) || l[at] != d.file) {
			l = slices.Insert(l, at, d.file)
		}
	}
	return l
}

// can is the error of an event, if it were the next one.
func (o *ought) can(d event) api.Errno {
	x, e := o.own(d.file)
	others := slices.Concat(x.Rights.Readers, x.Rights.Writers)
	switch {
	case d.do == 'c' && !name.Right(d.file):
		return api.ErrName
	case d.do == 'c' && e == api.OK:
		return api.ErrThere
	case d.do == 'c' && len(o.files()) >= 8:
		return api.ErrBig
	case d.do == 'c':
		return api.OK
	case e != api.OK:
		return api.ErrNone
	case d.do == 'm':
		return api.OK
	case !name.Right(d.who):
		return api.ErrName
	case d.do == 'g' && (d.who == o.name || slices.Contains(others, d.who)):
		return api.ErrThere
	case d.do == 'g' && len(others) >= 5:
		return api.ErrBig
	case d.do == 'k' && !slices.Contains(others, d.who):
		return api.ErrNone
	case d.do == 'k' && x.Rights.Epoch == 7:
		return api.ErrChain
	}
	return api.OK
}

func (o *ought) do(d event) api.Errno {
	e := o.can(d)
	if e == api.OK {
		o.done = append(o.done, d)
	}
	return e
}

func (o *ought) meta(file string, known []meta.Known) (meta.Meta, api.Errno) {
	x, e := o.own(file)
	if e != api.OK {
		return meta.Meta{}, e
	}
	return meta.Build(o.secret(), x.Rights, x.Version, x.Root, x.Signers, known)
}

// copied is one of its own, that is the same.
func (o *ought) copied() ought { return ought{o.name, o.seed, slices.Clone(o.done)} }
