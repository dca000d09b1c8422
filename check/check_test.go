package check

import (
	"slices"
	"testing"

	"knapsack/api"
	"knapsack/store"
)

// list is a list of ids, for short lines.
func list(ids ...api.Id) []api.Id {
	return ids
}

// refsTo are valid refs to these ids.
func refsTo(ids ...api.Id) []api.Ref {
	var l []api.Ref
	for i, id := range ids {
		l = append(l, api.Ref{Name: "r" + string([]byte{byte('A' + i/10), byte('0' + i%10)}), Id: id})
	}
	return l
}

// changed tells whether the store has anything else than what was put.
func (h *history) changed() bool {
	if h.s.Len() != len(h.ids) || !slices.Equal(h.s.Ids(), sorted(h.ids...)) {
		return true
	}
	for id, encoding := range h.encodings {
		if got, is := h.s.Get(id); got != encoding || !is {
			return true
		}
	}
	return false
}

// turned are lists with the same ids: each twice, and in another order.
func turned(ids []api.Id) [][]api.Id {
	back := slices.Clone(ids)
	slices.Reverse(back)
	return [][]api.Id{ids, slices.Concat(ids, ids), back}
}

// checkClosed looks once more with other lists of the same ids.
func checkClosed(t *testing.T, h *history, from, cut []api.Id, want api.Errno) {
	t.Helper()
	from2, cut2 := slices.Clone(from), slices.Clone(cut)
	for _, f := range turned(from) {
		for _, c := range turned(cut) {
			if e := Closed(h.s, f, c); e != want {
				t.Fatalf("Closed from %x, cut %x: %d, not %d", f, c, e, want)
			}
		}
	}
	if !slices.Equal(from, from2) || !slices.Equal(cut, cut2) {
		t.Errorf("Closed changed its lists: %x, %x", from, cut)
	}
	if told := h.toldClosed(from, cut); told != want {
		t.Fatalf("the second reading of %x, cut %x: %d, not %d", from, cut, told, want)
	}
}

// checkWhole takes the shallow commits as they are: their order counts.
func checkWhole(t *testing.T, h *history, refs []api.Ref, shallow []api.Id, want api.Errno) {
	t.Helper()
	refs2, shallow2 := slices.Clone(refs), slices.Clone(shallow)
	if e := Whole(store.Repo{S: h.s, Refs: refs, Shallow: shallow}); e != want {
		t.Fatalf("Whole of refs %x, shallow %x: %d, not %d", refs, shallow, e, want)
	}
	if !slices.Equal(refs, refs2) || !slices.Equal(shallow, shallow2) {
		t.Errorf("Whole changed its lists: %x, %x", refs, shallow)
	}
	if told := h.toldWhole(refs, shallow); told != want {
		t.Fatalf("the second reading of refs %x, shallow %x: %d, not %d", refs, shallow, told, want)
	}
}

// checkUnchanged is for the end of a test.
func checkUnchanged(t *testing.T, h *history) {
	t.Helper()
	if h.changed() {
		t.Error("a call changed the store")
	}
}
