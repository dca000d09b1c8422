package depth

import (
	"bytes"

	"knapsack/api"
)

// idSet is a set of ids.
type idSet map[api.Id]struct{}

func setOf(ids []api.Id) idSet {
	s := idSet{}
	for _, id := range ids {
		s.add(id)
	}
	return s
}

// add puts an id into a set, and tells whether it was not there.
func (s idSet) add(id api.Id) bool {
	if s.has(id) {
		return false
	}
	s[id] = struct{}{}
	return true
}

func (s idSet) has(id api.Id) bool {
	_, is := s[id]
	return is
}

// compare is below 0 for an id ahead of another one, and 0 for the same one twice.
func compare(a, b api.Id) int {
	return bytes.Compare(a[:], b[:])
}
