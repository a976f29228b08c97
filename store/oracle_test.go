package store_test

import "letterlock/api"

// The chapter's words, once more and from them alone, for the tests to hold the package against: what
// was done is a row, and each answer is told by looking all of it through.

// event is what was done without an error: a blob was put, or what was there was deleted.
type event struct {
	key, blob string
	gone      bool
}

type ought struct{ done []event }

func (o *ought) put(key, blob string) api.Errno {
	if len(key) == 0 || len(key) > 200 {
		return api.ErrArg
	}
	if len(blob) > 40000 {
		return api.ErrBig
	}
	if o.puts() >= 2000 {
		return api.ErrState
	}
	o.done = append(o.done, event{key: key, blob: blob})
	return api.OK
}

func (o *ought) delete(key string) api.Errno {
	_, e := o.get(key)
	if e == api.OK {
		o.done = append(o.done, event{key: key, gone: true})
	}
	return e
}

// get tells what was done last with a key.
func (o *ought) get(key string) (string, api.Errno) {
	for i := len(o.done) - 1; i >= 0; i-- {
		if d := o.done[i]; d.key == key {
			if d.gone {
				return "", api.ErrNone
			}
			return d.blob, api.OK
		}
	}
	return "", api.ErrNone
}

func (o *ought) list(prefix string) []string {
	var l []string
	for _, key := range o.ever() {
		_, e := o.get(key)
		if e == api.OK && len(key) >= len(prefix) && key[:len(prefix)] == prefix {
			l = append(l, key)
		}
	}
	return l
}

func (o *ought) versions(key string) []string {
	var l []string
	for _, d := range o.done {
		if d.key == key && !d.gone {
			l = append(l, d.blob)
		}
	}
	return l
}

// ever puts each key that it meets ahead of the first one that it does not stand behind.
func (o *ought) ever() []string {
	var l []string
	for _, d := range o.done {
		at := 0
		for at < len(l) && ahead(l[at], d.key) {
			at++
		}
		if at == len(l) || l[at] != d.key {
			l = append(l, "")
			copy(l[at+1:], l[at:])
			l[at] = d.key
		}
	}
	return l
}

func (o *ought) puts() int {
	many := 0
	for _, d := range o.done {
		if !d.gone {
			many++
		}
	}
	return many
}

// ahead compares bytes as numbers, one by one from the left; what is the beginning of the other one is ahead.
func ahead(a, b string) bool {
	for i := 0; i < len(a) && i < len(b); i++ {
		if a[i] != b[i] {
			return a[i] < b[i]
		}
	}
	return len(a) < len(b)
}
