package graph

import (
	"container/heap"

	"knapsack/api"
	"knapsack/sha256"
	"knapsack/store"
)

// walker has the candidates of a walk that are not listed yet, and all that have been candidates.
type walker struct {
	s       *store.Store
	waiting candidates
	seen    idSet
}

// addEnd makes the end of an object a candidate.
func (w *walker) addEnd(id api.Id) {
	if end, is := End(w.s, id); is {
		w.add(end)
	}
}

// add makes an id a candidate, if it is that of a commit in the store and has not been one before.
func (w *walker) add(id api.Id) {
	o, is := w.s.Object(id)
	if !is || o.Kind != api.Commit || !w.seen.add(id) {
		return
	}
	heap.Push(&w.waiting, candidate{id: id, time: o.Time, parents: o.Parents})
}

// next takes the candidate that is to be listed; there must be one.
func (w *walker) next() candidate {
	return heap.Pop(&w.waiting).(candidate)
}

// candidate is a commit that is to be listed.
type candidate struct {
	id      api.Id
	time    uint32
	parents []api.Id
}

// candidates is a heap: the one that is listed first is the least.
type candidates []candidate

// Len is how many there are.
func (c candidates) Len() int {
	return len(c)
}

// Less tells whether one is listed ahead of another one.
func (c candidates) Less(i, j int) bool {
	if c[i].time != c[j].time {
		return c[i].time > c[j].time
	}
	return sha256.Less(c[i].id, c[j].id)
}

// Swap changes the places of two.
func (c candidates) Swap(i, j int) {
	c[i], c[j] = c[j], c[i]
}

// Push puts one at the end, for the library's heap.
func (c *candidates) Push(x any) {
	*c = append(*c, x.(candidate))
}

// Pop takes the one at the end, for the library's heap.
func (c *candidates) Pop() any {
	last := len(*c) - 1
	x := (*c)[last]
	*c = (*c)[:last]
	return x
}
