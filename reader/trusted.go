package reader

import (
	"letterlock/api"
	"letterlock/fresh"
	"letterlock/meta"
	"letterlock/owner"
	"letterlock/tree"
)

// trusted is an envelope, and what it is trusted as: what somebody of that name, and that public
// term, says of that file. What is asked of it is asked of the envelope's own parts.
type trusted struct {
	owner.Envelope
	public, by, file string
}

// trust is what is trusted of an answer, or nothing.
func trust(blob, public, by, file string, now, bound uint64) (trusted, api.Errno) {
	envelope, e := owner.Take(blob)
	if e != api.OK {
		return trusted{}, api.ErrForm
	}
	x := trusted{envelope, public, by, file}
	if e = x.stamped(now, bound); e != api.OK {
		return trusted{}, e
	}
	if e = x.signed(); e != api.OK {
		return trusted{}, e
	}
	if !x.covered() {
		return trusted{}, api.ErrStale
	}
	return x, api.OK
}

// stamped tells whether its stamp is that one's, and not too old.
func (x trusted) stamped(now, bound uint64) api.Errno {
	return fresh.Check(x.Stamp, x.public, x.by, now, bound)
}

// signed tells whether its meta is what that one says of the file.
func (x trusted) signed() api.Errno { return meta.Check(x.Meta, x.public, x.by, x.file) }

// covered tells whether its meta's version was the file's when the stamp was made. That both are the
// same one's is not enough: an old meta can be laid beside a new stamp.
func (x trusted) covered() bool {
	leaf, e := tree.Leaf(x.file, x.Meta.Version)
	return e == api.OK && fresh.Covers(x.Stamp, x.At, leaf, x.Proof)
}
