package meta

import (
	"slices"

	"letterlock/api"
	"letterlock/regress"
	"letterlock/rights"
	"letterlock/term"
)

// addressees are these users, each as the first that is known by that name.
func addressees(users []string, known []Known) ([]Known, api.Errno) {
	var l []Known
	for _, user := range users {
		at := slices.IndexFunc(known, func(k Known) bool { return k.Name == user })
		if at < 0 {
			return nil, api.ErrNone
		}
		if !isPublic(known[at].Public) {
			return nil, api.ErrArg
		}
		l = append(l, known[at])
	}
	return l, api.OK
}

// apart is the same rights, with lists of their own.
func apart(r api.Rights) api.Rights {
	r.Readers, r.Writers = slices.Concat(r.Readers), slices.Concat(r.Writers)
	return r
}

// publics are the public terms of secrets.
func publics(secrets []string) ([]string, api.Errno) {
	var l []string
	for _, s := range secrets {
		public, e := term.OfPublic(s)
		if e != api.OK {
			return nil, e
		}
		l = append(l, public)
	}
	return l, api.OK
}

// blocks are those of all to whom the keys go: to each the state of r's epoch, and to writers the signer.
func blocks(r api.Rights, root, signer string, to []Known) ([]Block, api.Errno) {
	if len(to) == 0 { // nobody is told a state, so none is made, and root may be too great for one
		return nil, api.OK
	}
	state, e := regress.State(root, r.Epoch)
	if e != api.OK {
		return nil, e
	}
	none, _ := term.OfText("") // so short a text is never too great
	var l []Block
	for _, k := range to {
		told := none
		if rights.Can(r, k.Name, true) {
			told = signer
		}
		box, e := boxed(k.Public, state, told)
		if e != api.OK {
			return nil, e
		}
		l = append(l, Block{User: k.Name, Box: box})
	}
	return l, api.OK
}

// boxed is a pair of keys, boxed for the one whose public term that is.
func boxed(public, state, signer string) (string, api.Errno) {
	keys, e := term.OfPair(state, signer)
	if e != api.OK {
		return "", e
	}
	return term.Box(public, keys)
}

// sign is a meta's signature; its Sig is not looked at.
func sign(secret string, m Meta) (string, api.Errno) {
	text, e := term.OfText(body(m))
	if e != api.OK {
		return "", e
	}
	return term.Sign(secret, text)
}
