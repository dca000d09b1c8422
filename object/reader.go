package object

import (
	"math"

	"knapsack/api"
	"knapsack/varint"
)

// reader takes values off the beginning of a string. A fault leaves nothing to be read, so that every loop over the rest ends.
type reader struct {
	rest string
	bad  bool
}

// bodyMethod is the method that reads the body of an object of that kind, or nil if there is no such kind.
func bodyMethod(kind int) func(*reader) api.Object {
	switch kind {
	case api.Blob:
		return (*reader).blob
	case api.Tree:
		return (*reader).tree
	case api.Commit:
		return (*reader).commit
	case api.Tag:
		return (*reader).tag
	}
	return nil
}

func (r *reader) blob() api.Object {
	data := r.rest
	r.rest = ""
	return api.Object{Kind: api.Blob, Data: data}
}

func (r *reader) tree() api.Object {
	var entries []api.Entry
	for r.rest != "" {
		kind := r.kind()
		name := r.text()
		id := r.id()
		entries = append(entries, api.Entry{Name: name, Kind: kind, Id: id})
	}
	return api.Object{Kind: api.Tree, Entries: entries}
}

func (r *reader) commit() api.Object {
	tree := r.id()
	count := r.number(api.MaxParents)
	var parents []api.Id
	for range count {
		parents = append(parents, r.id())
	}
	time := r.number(math.MaxUint32)
	text := r.text()
	return api.Object{Kind: api.Commit, Tree: tree, Parents: parents, Time: uint32(time), Text: text}
}

func (r *reader) tag() api.Object {
	of := r.kind()
	target := r.id()
	name := r.text()
	return api.Object{Kind: api.Tag, Of: of, Target: target, Name: name}
}

func (r *reader) kind() int {
	if r.rest == "" {
		r.fail()
		return 0
	}
	kind := int(r.rest[0])
	r.rest = r.rest[1:]
	return kind
}

func (r *reader) id() api.Id {
	var id api.Id
	if len(r.rest) < len(id) {
		r.fail()
		return api.Id{}
	}
	copy(id[:], r.rest)
	r.rest = r.rest[len(id):]
	return id
}

// number is the next number, which may not be more than most.
func (r *reader) number(most uint64) uint64 {
	n, rest, e := varint.Get(r.rest)
	if e != api.OK || n > most {
		r.fail()
		return 0
	}
	r.rest = rest
	return n
}

func (r *reader) text() string {
	text, rest, e := varint.Take(r.rest)
	if e != api.OK {
		r.fail()
		return ""
	}
	r.rest = rest
	return text
}

func (r *reader) fail() {
	r.rest = ""
	r.bad = true
}

// ended tells whether all was read, without a fault.
func (r *reader) ended() bool {
	return !r.bad && r.rest == ""
}
