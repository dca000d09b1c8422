package depth

import (
	"knapsack/api"
	"knapsack/store"
)

// finder has the commits found so far, the nearest first, and all ids that were looked at.
type finder struct {
	s     *store.Store
	seen  idSet
	found []Depth
}

// add gives an id a depth, if it is that of a commit in the store and has none yet.
func (f *finder) add(id api.Id, n int) {
	if f.seen.add(id) && f.s.Kind(id) == api.Commit {
		f.found = append(f.found, Depth{Id: id, N: n})
	}
}

// addParents adds the ancestors of what was found, up to a depth. Nearer children come ahead of others, so that the first depth of a parent is its smallest one.
func (f *finder) addParents(most int) {
	// The list grows while it is gone through: a parent's own parents have their turn later.
	for i := 0; i < len(f.found) && f.found[i].N < most; i++ {
		c := f.found[i]
		o, _ := f.s.Object(c.Id)
		for _, p := range o.Parents {
			f.add(p, c.N+1)
		}
	}
}
