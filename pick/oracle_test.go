package pick_test

import (
	"letterlock/api"
	"letterlock/pick"
)

// The chapter's words, once more and from them alone, for the tests to hold the package against: what
// was done with a store is a row, and each answer is told by looking it through, from its end.

// event is what was done without an error: a blob was put, or what was there was deleted.
type event struct {
	key, blob string
	gone      bool
}

// ought is a store, or, of no events, one that is nil, too.
type ought struct{ done []event }

// there tells what was done last with a key.
func (o *ought) there(key string) (string, api.Errno) {
	for i := len(o.done) - 1; i >= 0; i-- {
		if d := o.done[i]; d.key == key && d.gone {
			return "", 4
		} else if d.key == key {
			return d.blob, 0
		}
	}
	return "", 4
}

// ahead goes back from the last blob that was put at a key, one for each of back.
func (o *ought) ahead(key string, back int) (string, api.Errno) {
	for i := len(o.done) - 1; i >= 0; i-- {
		if d := o.done[i]; d.key == key && !d.gone {
			if back == 0 {
				return d.blob, 0
			}
			back--
		}
	}
	return "", 4
}

func (o *ought) get(key string, c pick.Choice) (string, api.Errno) {
	if c.Kind == 's' && c.Back < 0 || c.Kind == 'd' {
		return "", 4
	}
	if c.Kind == 's' {
		return o.ahead(key, c.Back)
	}
	if c.Kind == 'x' {
		return o.there(c.Key)
	}
	if c.Kind == 'b' && len(c.Bytes) > 40000 {
		return "", 10
	}
	if c.Kind == 'b' {
		return c.Bytes, 0
	}
	return o.there(key)
}

func (o *ought) lies(key string, c pick.Choice) bool {
	blob, e := o.get(key, c)
	there, thereError := o.there(key)
	return e != thereError || e == 0 && blob != there
}

// list puts each key that it meets ahead of the first one that does not stand ahead of it, by bytes.
func (o *ought) list(prefix string, c pick.Choice) []string {
	var l []string
	for _, d := range o.done {
		_, e := o.there(d.key)
		if e != 0 || c.Kind == 'd' || len(d.key) < len(prefix) || d.key[:len(prefix)] != prefix {
			continue
		}
		at := 0
		for at < len(l) && l[at] < d.key {
			at++
		}
		if at == len(l) || l[at] != d.key {
			l = append(l[:at:at], append([]string{d.key}, l[at:]...)...)
		}
	}
	return l
}
