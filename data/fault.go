package data

import "letterlock/api"

// must panics with an error, if what it is handed does not hold. Nothing else panics, so that
// Build and Open, which recover, find an error and tell it.
func must(holds bool, e api.Errno) {
	if !holds {
		panic(e)
	}
}

// made is a term that a call made; of parts that are right terms it can only be too great.
func made(t string, e api.Errno) string {
	must(e == api.OK, api.ErrBig)
	return t
}

// trusted is what a call told of a blob that is opened: whatever it errs, that is no blob to be trusted.
func trusted(t string, e api.Errno) string {
	must(e == api.OK, api.ErrSig)
	return t
}
