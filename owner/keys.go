package owner

// room is where an owner's things of one kind lie. Its key is handed on as a method value: who has
// that makes keys by files' names alone, and none of another owner's, or of another kind.
type room struct{ kind, owner string }

func (r room) key(file string) string { return r.kind + "/" + r.owner + "/" + file }

func metaKeys(owner string) func(file string) string { return room{"f", owner}.key }

func dataKeys(owner string) func(file string) string { return room{"d", owner}.key }
