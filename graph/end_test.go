package graph

import (
	"testing"

	"knapsack/api"
	"knapsack/store"
)

// P12.1: the end of each kind of object.
func TestEndOfEachKind(t *testing.T) {
	h := newHistory(t)
	blob := h.blob("x")
	tree := h.tree(blob)
	first := h.commit(1, tree, numbered(1))
	second := h.commit(2, tree, first)
	for _, id := range list(blob, tree, first, second) {
		checkEnd(t, h, id, id)
		tag := h.tag("v", id)
		checkEnd(t, h, tag, id)
		checkEnd(t, h, h.tag("w", tag), id)
		checkEnd(t, h, h.tag("x", h.tag("w", tag)), id)
		checkEnd(t, h, id, id)
	}
	if h.changed() {
		t.Error("End changed the store")
	}
}

// P12.1: what counts is what is under the target's id, not what the tag says of it.
func TestEndOfOtherKinds(t *testing.T) {
	h := newHistory(t)
	blob, gone := h.blob("x"), numbered(1)
	commit := h.commit(1, gone)
	tagged := h.tag("v", commit)
	for of := api.Blob; of <= api.Tag; of++ {
		for _, id := range list(blob, commit) {
			checkEnd(t, h, h.put(api.Object{Kind: api.Tag, Of: of, Target: id, Name: "v"}), id)
		}
		checkEnd(t, h, h.put(api.Object{Kind: api.Tag, Of: of, Target: tagged, Name: "v"}), commit)
		checkNoEnd(t, h, h.put(api.Object{Kind: api.Tag, Of: of, Target: gone, Name: "v"}))
	}
}

// P12.1: ids that are not in the store have no end, nor have tags that lead to such.
func TestNoEnd(t *testing.T) {
	h := newHistory(t)
	checkNoEnd(t, h, api.Id{})
	checkNoEnd(t, h, numbered(1))
	blob := h.blob("x")
	commit := h.commit(1, numbered(1), numbered(2))
	for i := range blob {
		near := blob
		near[i]++
		checkNoEnd(t, h, near)
		checkNoEnd(t, h, h.tag("v", near))
	}
	checkNoEnd(t, h, api.Id{})
	checkNoEnd(t, h, numbered(1))
	tag := h.tag("v", numbered(1))
	checkNoEnd(t, h, tag)
	checkNoEnd(t, h, h.tag("v", tag))
	checkNoEnd(t, h, h.tag("v", h.tag("v", tag)))
	checkNoEnd(t, h, h.tag("none", api.Id{}))
	checkEnd(t, h, commit, commit)
	checkEnd(t, h, h.tag("v", commit), commit)
}

// P12.1: chains of all the tags that a store has, down to an end or to nothing.
func TestEndOfChains(t *testing.T) {
	for n := range 40 {
		for _, time := range []uint32{0, 7} {
			h := newHistory(t)
			end := h.commit(time, numbered(1))
			checkEnd(t, h, h.chain(n, end), end)
			if h.s.Len() != n+1 {
				t.Fatalf("%d objects", h.s.Len())
			}
		}
		h := newHistory(t)
		checkNoEnd(t, h, h.chain(n, numbered(1)))
		if h.s.Len() != n {
			t.Fatalf("%d objects", h.s.Len())
		}
	}
}

// P12.1: a chain of very many tags, from any place in it.
func TestEndOfLongChain(t *testing.T) {
	const n = 5000
	h := newHistory(t)
	blob := h.blob("x")
	last := h.chain(n, blob)
	checkEnd(t, h, last, blob)
	for i := 1; i < n; i += 499 {
		checkEnd(t, h, h.ids[i], blob)
	}
	alone := newHistory(t)
	last = alone.chain(n, blob)
	checkNoEnd(t, alone, last)
	alone.blob("x")
	checkEnd(t, alone, last, blob)
}

// P12.1, P0: a nil store has no objects.
func TestEndNil(t *testing.T) {
	h := newHistory(t)
	blob := h.blob("x")
	for _, s := range []*store.Store{nil, store.New()} {
		for _, id := range list(api.Id{}, numbered(1), blob, h.tag("v", blob)) {
			if end, is := End(s, id); end != (api.Id{}) || is {
				t.Errorf("End of %x: %x, %v", id, end, is)
			}
		}
	}
}

// P12.1: many histories, against the second reading.
func TestEndMany(t *testing.T) {
	some, none := 0, 0
	for seed := range uint64(40) {
		h := manyObjects(t, 100, 300+seed)
		for _, id := range append(h.ids, numbered(0), numbered(1), api.Id{}) {
			end, is := h.toldEnd(id)
			if !is {
				checkNoEnd(t, h, id)
				none++
				continue
			}
			checkEnd(t, h, id, end)
			if end != id {
				some++
			}
		}
	}
	if some < 100 || none < 150 {
		t.Errorf("only %d with another end, %d without", some, none)
	}
}
