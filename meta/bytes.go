package meta

import (
	"letterlock/api"
	"letterlock/rights"
	"letterlock/wire"
)

// How many texts there are in the rows of a meta, of a body, and of a block.
const (
	metaRow  = 2
	bodyRow  = 4
	blockRow = 2
)

// body is the body's bytes of a meta whose rights are right.
func body(m Meta) string {
	who, _ := rights.Put(m.Rights)
	rows := make([]string, len(m.Blocks))
	for i, b := range m.Blocks {
		rows[i] = wire.PutAll([]string{b.User, b.Box})
	}
	return wire.PutAll([]string{who, wire.Put(m.Version), wire.PutAll(m.Verify), wire.PutAll(rows)})
}

// read reads a meta, right or not but for its rights, off bytes that are all of s.
func read(s string) (Meta, bool) {
	whole, fine := takeRow(s, metaRow)
	if !fine {
		return Meta{}, false
	}
	row, fine := takeRow(whole[0], bodyRow)
	if !fine {
		return Meta{}, false
	}
	r, e := rights.Take(row[0])
	if e != api.OK {
		return Meta{}, false
	}
	version, behind, e := wire.Take(row[1])
	if e != api.OK || behind != "" {
		return Meta{}, false
	}
	verify, fine := takeRow(row[2], r.Epoch+1)
	if !fine {
		return Meta{}, false
	}
	l, fine := readBlocks(row[3], len(r.Readers)+len(r.Writers))
	if !fine {
		return Meta{}, false
	}
	return Meta{Rights: r, Version: version, Verify: verify, Blocks: l, Sig: whole[1]}, true
}

// readBlocks reads that many blocks, right or not, off a row that is all of s.
func readBlocks(s string, many int) ([]Block, bool) {
	rows, fine := takeRow(s, many)
	if !fine {
		return nil, false
	}
	var l []Block
	for _, row := range rows {
		b, fine := takeRow(row, blockRow)
		if !fine {
			return nil, false
		}
		l = append(l, Block{User: b[0], Box: b[1]})
	}
	return l, true
}

// takeRow are the texts of a row that is all of s and has just that many. They may be as long as
// they are: how long each may be, Right tells.
func takeRow(s string, many int) ([]string, bool) {
	row, e := wire.TakeAll(s, many, len(s))
	if e != api.OK || len(row) != many {
		return nil, false
	}
	return row, true
}
