package depth

import (
	"slices"
	"testing"

	"knapsack/api"
	"knapsack/store"
)

// P13.1: the chapter's example, and that of the whole.
func TestBoundExamples(t *testing.T) {
	h := newHistory(t)
	a := h.commit(1, h.tree())
	b := h.commit(2, h.tree(), a)
	c := h.commit(3, h.tree(), b)
	checkBounded(t, h, list(c), 2, list(b), list(c))
	d := h.commit(4, h.tree(), c)
	checkBounded(t, h, list(d), 2, list(c), list(d))
}

// P13.1: each depth of a row: the last commit has no parent, and is never shallow.
func TestBoundOfRow(t *testing.T) {
	const n = 12
	h := newHistory(t)
	var row []api.Id // the newest first
	for i := range n {
		row = append(list(h.commit(uint32(i), h.tree(), row[:min(i, 1)]...)), row...)
	}
	for i := range row {
		for m := 1; m < n-i; m++ {
			checkBounded(t, h, row[i:i+1], m, row[i+m-1:i+m], row[i:i+m-1])
		}
		checkBounded(t, h, row[i:i+1], n-i, nil, row[i:n-1])
		for _, m := range []int{n - i + 1, n - i + 2, 500, api.AllDepth - 1, api.AllDepth} {
			checkBounded(t, h, row[i:i+1], m, nil, row[i:])
		}
	}
}

// P13.1: a commit is shallow for a parent that is missing, or is no commit, too.
func TestBoundOfOtherParents(t *testing.T) {
	h := newHistory(t)
	blob := h.blob("x")
	tree := h.tree(blob)
	tag := h.tag("v", h.commit(1, tree))
	for i, p := range list(blob, tree, tag, numbered(1), api.Id{}) {
		time := uint32(10 * i)
		one := h.commit(time+1, tree, p)
		two := h.commit(time+2, tree, one)
		checkBounded(t, h, list(one), 1, list(one), nil)
		checkBounded(t, h, list(one), 2, nil, list(one))
		checkBounded(t, h, list(two), 1, list(two), nil)
		checkBounded(t, h, list(two), 2, list(one), list(two))
		checkBounded(t, h, list(two), 3, nil, list(one, two))
		checkBounded(t, h, list(two, one), 1, list(one, two), nil)
	}
}

// P13.1: commits of the greatest depth, with parents and without.
func TestBoundOfBranches(t *testing.T) {
	h := newHistory(t)
	tree := h.tree()
	root := h.commit(1, tree)
	left1, right1 := h.commit(2, tree, root), h.other("r", 2, tree, root)
	left2 := h.commit(3, tree, left1)
	merge := h.commit(4, tree, left2, right1, root)
	checkBounded(t, h, list(merge), 1, list(merge), nil)
	checkBounded(t, h, list(merge), 2, list(left2, right1), list(merge))
	checkBounded(t, h, list(merge), 3, list(left1), list(merge, left2, right1, root))
	checkBounded(t, h, list(merge), 4, nil, list(merge, left2, right1, root, left1))
	checkBounded(t, h, list(left2, right1), 2, list(left1), list(left2, right1))
	checkBounded(t, h, list(merge, left1), 1, list(merge, left1), nil)
	checkBounded(t, h, list(merge, root), 1, list(merge), nil)
	checkBounded(t, h, list(merge, left1), 2, list(left2, right1), list(merge, left1))
	checkBounded(t, h, list(h.tag("v", merge), tree, numbered(1)), 2, list(left2, right1), list(merge))
}

// P13.1: many commits on each side of the bound, all in order.
func TestBoundOfMany(t *testing.T) {
	h := newHistory(t)
	var tips, parents, roots []api.Id
	for i := range 200 {
		r := h.other("r", uint32(i), numbered(i))
		p := h.other("p", uint32(i), numbered(i), r)
		roots, parents, tips = append(roots, r), append(parents, p), append(tips, h.other("c", uint32(i), numbered(i), p))
	}
	checkBounded(t, h, tips, 1, tips, nil)
	checkBounded(t, h, tips, 2, parents, tips)
	checkBounded(t, h, tips, 3, nil, append(parents, tips...))
	checkBounded(t, h, tips, 4, nil, slices.Concat(parents, tips, roots))
}

// P13.1: depths that may not be asked for.
func TestBoundOfWrongDepths(t *testing.T) {
	h := newHistory(t)
	tip := h.commit(2, h.tree(), h.commit(1, h.tree()))
	for _, s := range []*store.Store{h.s, store.New(), nil} {
		for _, from := range [][]api.Id{list(tip), h.ids, list(numbered(1)), {}, nil} {
			for _, n := range wrongDepths {
				if shallow, deep, e := Bound(s, from, n); len(shallow) != 0 || len(deep) != 0 || e != api.ErrArg {
					t.Errorf("Bound(%d): %x, %x, %d", n, shallow, deep, e)
				}
			}
		}
	}
	if h.changed() {
		t.Error("Bound changed the store")
	}
}

// P13.1, P0: no starting ids, no commits, no objects, and no store.
func TestBoundOfNothing(t *testing.T) {
	h := newHistory(t)
	blob := h.blob("x")
	tip := h.commit(2, h.tree(blob), h.commit(1, h.tree()))
	for _, n := range []int{1, 2, api.AllDepth} {
		for _, from := range [][]api.Id{nil, {}, list(blob), list(h.tree(blob), numbered(1), api.Id{}, h.tag("v", blob))} {
			checkBound(t, h, from, n, nil, nil)
		}
		for _, s := range []*store.Store{nil, store.New()} {
			for _, from := range [][]api.Id{nil, {}, list(tip), list(tip, api.Id{}, h.tag("v", tip))} {
				if shallow, deep, e := Bound(s, from, n); len(shallow) != 0 || len(deep) != 0 || e != api.OK {
					t.Errorf("Bound from %x, %d: %x, %x, %d", from, n, shallow, deep, e)
				}
			}
		}
	}
}

// P0: results are new memory, of which no two lists share any.
func TestBoundMemory(t *testing.T) {
	h := newHistory(t)
	var from, roots []api.Id
	for i := range 9 {
		roots = append(roots, h.commit(uint32(i), h.tree(), numbered(1)))
		from = append(from, h.commit(uint32(i), h.tree(), roots[i]))
	}
	wantShallow, wantDeep, given := sorted(roots...), sorted(from...), slices.Clone(from)
	shallow, deep, _ := Bound(h.s, from, 2)
	shallow2, deep2, _ := Bound(h.s, from, 2)
	_ = append(append(shallow, numbered(1)), numbered(2))
	_ = append(append(deep, numbered(3)), numbered(4))
	if !slices.Equal(shallow, wantShallow) || !slices.Equal(deep, wantDeep) {
		t.Errorf("two lists share memory: %x, %x", shallow, deep)
	}
	for i := range shallow {
		shallow[i] = numbered(5)
	}
	if !slices.Equal(deep, wantDeep) || !slices.Equal(from, given) {
		t.Errorf("two lists share memory: %x, %x", deep, from)
	}
	for i := range deep {
		deep[i] = numbered(6)
	}
	if !slices.Equal(shallow2, wantShallow) || !slices.Equal(deep2, wantDeep) || !slices.Equal(from, given) {
		t.Errorf("results share memory: %x, %x, %x", shallow2, deep2, from)
	}
	checkBound(t, h, from, 2, wantShallow, wantDeep)
}
