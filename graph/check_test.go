package graph

import (
	"slices"
	"testing"

	"knapsack/api"
)

// changed tells whether the store has anything else than what was put.
func (h *history) changed() bool {
	if h.s.Len() != len(h.ids) || !slices.Equal(h.s.Ids(), sorted(h.ids...)) {
		return true
	}
	for id, encoding := range h.encodings {
		if got, is := h.s.Get(id); got != encoding || !is {
			return true
		}
	}
	return false
}

func checkReach(t *testing.T, h *history, from, cut, there, missing []api.Id) {
	t.Helper()
	from2, cut2 := slices.Clone(from), slices.Clone(cut)
	gotThere, gotMissing := Reach(h.s, from, cut)
	if !slices.Equal(gotThere, there) || !slices.Equal(gotMissing, missing) {
		t.Fatalf("Reach from %x, cut %x: %x and %x, not %x and %x", from, cut, gotThere, gotMissing, there, missing)
	}
	if !slices.Equal(from, from2) || !slices.Equal(cut, cut2) {
		t.Errorf("Reach changed its lists: %x, %x", from, cut)
	}
}

// checkReached takes what is reached in any order, and looks for it once more with each starting id twice, and in another order.
func checkReached(t *testing.T, h *history, from, cut, there, missing []api.Id) {
	t.Helper()
	there, missing = sorted(there...), sorted(missing...)
	checkReach(t, h, from, cut, there, missing)
	checkReach(t, h, slices.Concat(from, from), slices.Concat(cut, cut), there, missing)
	from, cut = slices.Clone(from), slices.Clone(cut)
	slices.Reverse(from)
	slices.Reverse(cut)
	checkReach(t, h, from, cut, there, missing)
	if h.changed() {
		t.Error("Reach changed the store")
	}
}

func checkEnd(t *testing.T, h *history, id, end api.Id) {
	t.Helper()
	if got, is := End(h.s, id); got != end || !is {
		t.Errorf("End of %x: %x, %v, not %x", id, got, is, end)
	}
}

func checkNoEnd(t *testing.T, h *history, id api.Id) {
	t.Helper()
	if got, is := End(h.s, id); got != (api.Id{}) || is {
		t.Errorf("End of %x: %x, %v", id, got, is)
	}
}

func checkWalk(t *testing.T, h *history, from, cut []api.Id, listed ...api.Id) {
	t.Helper()
	from2, cut2 := slices.Clone(from), slices.Clone(cut)
	if got := Walk(h.s, from, cut); !slices.Equal(got, listed) {
		t.Fatalf("Walk from %x, cut %x: %x, not %x", from, cut, got, listed)
	}
	if !slices.Equal(from, from2) || !slices.Equal(cut, cut2) {
		t.Errorf("Walk changed its lists: %x, %x", from, cut)
	}
}

// checkWalked looks for the walk once more with each starting id twice, and in another order.
func checkWalked(t *testing.T, h *history, from, cut []api.Id, listed ...api.Id) {
	t.Helper()
	checkWalk(t, h, from, cut, listed...)
	checkWalk(t, h, slices.Concat(from, from), slices.Concat(cut, cut), listed...)
	from, cut = slices.Clone(from), slices.Clone(cut)
	slices.Reverse(from)
	slices.Reverse(cut)
	checkWalk(t, h, from, cut, listed...)
	if h.changed() {
		t.Error("Walk changed the store")
	}
}

// list is a list of ids, for short lines.
func list(ids ...api.Id) []api.Id {
	return ids
}
