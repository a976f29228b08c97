package writer

import (
	"letterlock/api"
	"letterlock/data"
	"letterlock/reader"
)

// page is what was opened: contents, and whether they were sealed at an older epoch than the keys are of.
type page struct {
	contents string
	behind   bool
}

// renewal is the blob that is to lie there, and whether it is another one than did.
type renewal struct {
	blob    string
	changed bool
}

// open opens a blob; its epoch is asked of it only then, since one that is not opened may tell any.
func open(k reader.Keys, blob string) result[page] {
	return then(resultOf(reader.Open(k, blob)), func(contents string) result[page] {
		return then(resultOf(data.Take(blob)), func(b data.Blob) result[page] {
			return good(page{contents, b.Epoch < k.Epoch})
		})
	})
}

// seal is the bytes of contents that are sealed with keys. Without a signer they are a reader's.
func seal(k reader.Keys, contents string) result[string] {
	if k.Signer == "" {
		return bad[string](api.ErrDenied)
	}
	return then(resultOf(data.Build(k.State, k.Epoch, k.Signer, k.Path, contents)), bytesOf)
}

func bytesOf(b data.Blob) result[string] { return resultOf(data.Put(b)) }

// renew seals a page anew, if it is behind. What is not is left, so that readers, too, may ask.
func renew(k reader.Keys, blob string, p page) result[renewal] {
	if !p.behind {
		return good(renewal{blob, false})
	}
	return then(seal(k, p.contents), func(anew string) result[renewal] { return good(renewal{anew, true}) })
}
