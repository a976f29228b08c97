package owner

import (
	"letterlock/api"
	"letterlock/fresh"
	"letterlock/meta"
	"letterlock/wire"
)

const envelopeRow = 4 // texts in the row of an envelope

// read reads an envelope, right or not but for its meta and its stamp, off bytes that are all of s.
func read(s string) (Envelope, bool) {
	row, e := takeUpTo(s, envelopeRow)
	if e != api.OK || len(row) != envelopeRow {
		return Envelope{}, false
	}
	m, e := meta.Take(row[0])
	if e != api.OK {
		return Envelope{}, false
	}
	stamp, e := fresh.Take(row[1])
	if e != api.OK {
		return Envelope{}, false
	}
	at, behind, e := wire.Take(row[2])
	if e != api.OK || behind != "" {
		return Envelope{}, false
	}
	proof, e := takeUpTo(row[3], longestProof)
	if e != api.OK {
		return Envelope{}, false
	}
	return Envelope{Meta: m, Stamp: stamp, At: int(at), Proof: proof}, true // a number that goes round is below 0
}

// takeUpTo are the texts of a row that is all of s and has at most that many. They may be as long
// as they are: how long each may be, Right tells.
func takeUpTo(s string, many int) ([]string, api.Errno) { return wire.TakeAll(s, many, len(s)) }
