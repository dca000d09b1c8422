package depth

import (
	"slices"
	"testing"

	"knapsack/api"
)

// list is a list of ids, for short lines.
func list(ids ...api.Id) []api.Id {
	return ids
}

// changed tells whether the store has anything else than what was put.
func (h *history) changed() bool {
	if h.s.Len() != len(h.ids) || !slices.Equal(h.s.Ids(), sorted(h.ids...)) {
		return true
	}
	for id, encoding := range h.encodings {
		if got, is := h.s.Get(id); got != encoding || !is {
			return true
		}
	}
	return false
}

func checkOf(t *testing.T, h *history, from []api.Id, most int, want []Depth) {
	t.Helper()
	from2 := slices.Clone(from)
	got, e := Of(h.s, from, most)
	if !slices.Equal(got, want) || e != api.OK {
		t.Fatalf("Of from %x, %d: %v, %d, not %v", from, most, got, e, want)
	}
	if !slices.Equal(from, from2) {
		t.Errorf("Of changed its list: %x", from)
	}
}

func checkBound(t *testing.T, h *history, from []api.Id, n int, shallow, deep []api.Id) {
	t.Helper()
	from2 := slices.Clone(from)
	gotShallow, gotDeep, e := Bound(h.s, from, n)
	if !slices.Equal(gotShallow, shallow) || !slices.Equal(gotDeep, deep) || e != api.OK {
		t.Fatalf("Bound from %x, %d: %x and %x, %d, not %x and %x", from, n, gotShallow, gotDeep, e, shallow, deep)
	}
	if !slices.Equal(from, from2) {
		t.Errorf("Bound changed its list: %x", from)
	}
}

// turned are lists with the same ids: each twice, and in another order.
func turned(from []api.Id) [][]api.Id {
	back := slices.Clone(from)
	slices.Reverse(back)
	return [][]api.Id{from, slices.Concat(from, from), back}
}

// checkDepths holds all of Of, up to each depth, against rows of commits: those of depth 1, those of depth 2, and so on.
func checkDepths(t *testing.T, h *history, from []api.Id, rows ...[]api.Id) {
	t.Helper()
	for _, from := range turned(from) {
		var want []Depth
		for i, row := range rows {
			want = append(want, depths(i+1, row...)...)
			checkOf(t, h, from, i+1, inOrder(want))
		}
		for _, most := range []int{len(rows) + 1, len(rows) + 2, 1000, api.AllDepth - 1, api.AllDepth} {
			checkOf(t, h, from, most, inOrder(want))
		}
	}
	if h.changed() {
		t.Error("Of changed the store")
	}
}

// depths gives all ids the same depth.
func depths(n int, ids ...api.Id) []Depth {
	var l []Depth
	for _, id := range ids {
		l = append(l, Depth{Id: id, N: n})
	}
	return l
}

// inOrder lists depths by their ids.
func inOrder(l []Depth) []Depth {
	var in []Depth
	var ids []api.Id
	for _, d := range l {
		ids = append(ids, d.Id)
	}
	for _, id := range sorted(ids...) {
		in = append(in, l[slices.Index(ids, id)])
	}
	return in
}

// checkBounded takes the shallow and the deep commits in any order, and looks for them once more with other lists of the same ids.
func checkBounded(t *testing.T, h *history, from []api.Id, n int, shallow, deep []api.Id) {
	t.Helper()
	for _, from := range turned(from) {
		checkBound(t, h, from, n, sorted(shallow...), sorted(deep...))
	}
	if h.changed() {
		t.Error("Bound changed the store")
	}
}

// checkNext takes what is next in any order.
func checkNext(t *testing.T, old, shallow, deep []api.Id, want ...api.Id) {
	t.Helper()
	old2, shallow2, deep2 := slices.Clone(old), slices.Clone(shallow), slices.Clone(deep)
	if got := Next(old, shallow, deep); !slices.Equal(got, sorted(want...)) {
		t.Fatalf("Next of %x, %x, %x: %x, not %x", old, shallow, deep, got, want)
	}
	if !slices.Equal(old, old2) || !slices.Equal(shallow, shallow2) || !slices.Equal(deep, deep2) {
		t.Errorf("Next changed its lists: %x, %x, %x", old, shallow, deep)
	}
}
