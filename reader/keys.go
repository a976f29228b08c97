package reader

import (
	"letterlock/api"
	"letterlock/name"
	"letterlock/term"
)

// keysFor are the keys of a file whose rights are right.
func keysFor(r api.Rights, state, signer string, verify []string) Keys {
	path, _ := name.Path(r.Owner, r.File) // of right rights both are names
	return Keys{Path: path, Epoch: r.Epoch, State: state, Signer: signer, Verify: verify}
}

// publicsOf are the public terms of signers, in order, or the error of the first that has none.
func publicsOf(signers []string) ([]string, api.Errno) {
	var l []string
	for _, s := range signers {
		public, e := term.OfPublic(s)
		if e != api.OK {
			return nil, e
		}
		l = append(l, public)
	}
	return l, api.OK
}
