package owner

import (
	"letterlock/api"
	"letterlock/fresh"
	"letterlock/meta"
	"letterlock/tree"
	"letterlock/user"
)

// metasOf is what a user says of each of its files, in order.
func metasOf(u *user.User, known []meta.Known) ([]meta.Meta, api.Errno) {
	var l []meta.Meta
	for _, file := range u.Files() {
		m, e := u.Meta(file, known)
		if e != api.OK {
			return nil, e
		}
		l = append(l, m)
	}
	return l, api.OK
}

// enveloped is the bytes of a meta's envelope, with a stamp of these leaves and the proof of the one
// at its place. Nothing can err: of the same leaves the stamp was built.
func enveloped(m meta.Meta, stamp fresh.Stamp, leaves []string, at int) string {
	proof, _ := tree.Proof(leaves, at)
	s, _ := Put(Envelope{Meta: m, Stamp: stamp, At: at, Proof: proof})
	return s
}
