package depth

import (
	"math"
	"slices"
	"testing"

	"knapsack/api"
	"knapsack/store"
)

// wrongDepths are not from 1 to AllDepth.
var wrongDepths = []int{0, -1, -2, -api.AllDepth, math.MinInt, math.MinInt32, math.MinInt + 1, api.AllDepth + 1, api.AllDepth + 2, 2 * api.AllDepth, 1<<32 + 1, math.MaxInt32, math.MaxInt}

// P13.1: rows of commits, from each of them.
func TestOfRow(t *testing.T) {
	h := newHistory(t)
	var row []api.Id // the newest first
	for i := range 10 {
		row = append(list(h.commit(uint32(i), h.tree(), row[:min(i, 1)]...)), row...)
	}
	for i := range row {
		var rows [][]api.Id
		for _, id := range row[i:] {
			rows = append(rows, list(id))
		}
		checkDepths(t, h, row[i:i+1], rows...)
		checkDepths(t, h, row[i:], row[i:])
	}
	checkDepths(t, h, list(row[0], row[4]), list(row[0], row[4]), list(row[1], row[5]), list(row[2], row[6]), list(row[3], row[7]), list(row[8]), list(row[9]))
}

// P13.1: the smallest depth counts, whichever way is found first.
func TestOfSeveralWays(t *testing.T) {
	h := newHistory(t)
	tree := h.tree()
	root := h.commit(1, tree)
	a := h.commit(2, tree, root)
	b := h.commit(3, tree, a)
	c := h.commit(4, tree, b)
	for i, parents := range [][]api.Id{list(c, root), list(root, c)} {
		tip := h.commit(5+uint32(i), tree, parents...)
		checkDepths(t, h, list(tip), list(tip), list(c, root), list(b), list(a))
		checkDepths(t, h, list(tip, a), list(tip, a), list(c, root), list(b))
		over := h.commit(7+uint32(i), tree, tip)
		checkDepths(t, h, list(over, b), list(over, b), list(tip, a), list(c, root))
		checkDepths(t, h, list(over, root), list(over, root), list(tip), list(c), list(b), list(a))
	}
	for i, parents := range [][]api.Id{list(c, a), list(a, c), list(c, b, a), list(a, b, c, a)} {
		tip := h.commit(9+uint32(i), tree, parents...)
		rows := [][]api.Id{list(tip), list(c, a), list(b, root)}
		if slices.Contains(parents, b) {
			rows = [][]api.Id{list(tip), list(c, b, a), list(root)}
		}
		checkDepths(t, h, list(tip), rows...)
	}
}

// P13.1: histories that part and come together.
func TestOfBranches(t *testing.T) {
	h := newHistory(t)
	tree := h.tree(h.blob("x"))
	root := h.commit(1, tree)
	left1, right1 := h.commit(2, tree, root), h.commit(3, tree, root)
	left2 := h.commit(5, tree, left1)
	merge := h.commit(6, tree, left2, right1)
	alone := h.commit(3, h.tree())
	checkDepths(t, h, list(merge), list(merge), list(left2, right1), list(left1, root))
	checkDepths(t, h, list(merge, alone), list(merge, alone), list(left2, right1), list(left1, root))
	checkDepths(t, h, list(left2), list(left2), list(left1), list(root))
	checkDepths(t, h, list(left2, right1), list(left2, right1), list(left1, root))
	checkDepths(t, h, list(root), list(root))
	checkDepths(t, h, list(root, merge, left1), list(root, merge, left1), list(left2, right1))
	checkDepths(t, h, nil)
	checkDepths(t, h, list(alone), list(alone))
}

// P13.1: eight parents, and many tips.
func TestOfMany(t *testing.T) {
	h := newHistory(t)
	var tips, parents []api.Id
	for i := range 300 {
		p := h.other("p", uint32(i), numbered(i))
		parents = append(parents, p)
		tips = append(tips, h.other("c", uint32(i), numbered(i), p))
	}
	checkDepths(t, h, tips, tips, parents)
	for i := 8; i < len(tips); i += 40 {
		merge := h.commit(7, numbered(i), tips[i-8:i]...)
		checkDepths(t, h, list(merge), list(merge), tips[i-8:i], parents[i-8:i])
	}
}

// P13.1: the depth does not depend on times: parents may be later than their children.
func TestOfTimes(t *testing.T) {
	for _, times := range [][]uint32{{1, 2, 3, 4}, {4, 3, 2, 1}, {7, 7, 7, 7}, {0, math.MaxUint32, 1 << 31, 0}} {
		h := newHistory(t)
		tree := h.tree()
		a := h.commit(times[0], tree)
		b := h.commit(times[1], tree, a)
		c := h.commit(times[2], tree, b)
		d := h.commit(times[3], tree, c, a)
		checkDepths(t, h, list(d), list(d), list(c, a), list(b))
	}
}

// P13.1: the ends of the ids have depth 1; ids without an end, and ends that are no commits, have none.
func TestOfEnds(t *testing.T) {
	h := newHistory(t)
	blob := h.blob("x")
	tree := h.tree(blob)
	parent := h.commit(1, tree)
	child := h.commit(2, tree, parent)
	for n := range 5 {
		checkDepths(t, h, list(h.chain(n, child)), list(child), list(parent))
		checkDepths(t, h, list(h.chain(n, parent)), list(parent))
		checkDepths(t, h, list(h.chain(n, parent), child), list(parent, child))
		checkDepths(t, h, list(h.chain(n, child), child, tree, h.chain(n, blob), numbered(1)), list(child), list(parent))
		for _, id := range list(blob, tree, numbered(1), api.Id{}) {
			checkDepths(t, h, list(h.chain(n, id)))
		}
	}
}

// P13.1: what a tag says of its target's kind does not count.
func TestOfWrongTags(t *testing.T) {
	h := newHistory(t)
	blob := h.blob("x")
	commit := h.commit(1, blob)
	for of := api.Blob; of <= api.Tag; of++ {
		checkDepths(t, h, list(h.put(api.Object{Kind: api.Tag, Of: of, Target: commit, Name: "v"})), list(commit))
		checkDepths(t, h, list(h.put(api.Object{Kind: api.Tag, Of: of, Target: blob, Name: "v"})))
	}
}

// P13.1: only commits in the store have a depth, and only a commit's parents are asked for.
func TestOfWrongParents(t *testing.T) {
	h := newHistory(t)
	blob := h.blob("x")
	tree := h.tree(blob)
	root := h.commit(1, tree)
	tag := h.tag("v", root)
	for i, p := range list(blob, tree, tag, numbered(1), api.Id{}) {
		time := uint32(10 * i)
		c := h.commit(time+1, tree, p)
		checkDepths(t, h, list(c), list(c))
		d := h.commit(time+2, tree, p, root, p)
		checkDepths(t, h, list(d), list(d), list(root))
		e := h.commit(time+3, root, c)
		checkDepths(t, h, list(h.tree(root), h.tag("w", e)), list(e), list(c))
		first := list(e)
		if p == tag {
			first = append(first, root)
		}
		checkDepths(t, h, list(e, p), first, list(c))
	}
}

// P13.1: an object that comes into the store later has a depth from then on, and so do its parents.
func TestOfLaterPut(t *testing.T) {
	h, whole := newHistory(t), newHistory(t)
	root := h.commit(1, numbered(1))
	middle := whole.commit(2, numbered(1), root)
	tip := h.commit(3, numbered(1), middle)
	checkDepths(t, h, list(tip), list(tip))
	checkDepths(t, h, list(tip, middle), list(tip))
	h.commit(2, numbered(1), root)
	checkDepths(t, h, list(tip), list(tip), list(middle), list(root))
}

// P13.1: a row of very many commits.
func TestOfLongRow(t *testing.T) {
	const n = 20000
	h := newHistory(t)
	row := make([]api.Id, n)
	row[n-1] = h.commit(0, numbered(1))
	for i := n - 2; i >= 0; i-- {
		row[i] = h.commit(uint32(n-i), numbered(1), row[i+1])
	}
	for _, most := range []int{1, 2, 255, 256, 257, n - 1, n, n + 1, api.AllDepth} {
		l, e := Of(h.s, row[:1], most)
		if len(l) != min(n, most) || e != api.OK {
			t.Fatalf("Of(%d): %d commits, %d", most, len(l), e)
		}
		for i, d := range l {
			if d.N < 1 || d.N > most || row[d.N-1] != d.Id {
				t.Fatalf("Of(%d): %v", most, d)
			}
			if i > 0 && slices.Compare(l[i-1].Id[:], d.Id[:]) >= 0 {
				t.Fatalf("Of(%d): %v behind %v", most, d, l[i-1])
			}
		}
	}
}

// P13.1: depths that may not be asked for.
func TestOfWrongDepths(t *testing.T) {
	h := newHistory(t)
	tip := h.commit(2, h.tree(), h.commit(1, h.tree()))
	for _, s := range []*store.Store{h.s, store.New(), nil} {
		for _, from := range [][]api.Id{list(tip), h.ids, list(numbered(1)), {}, nil} {
			for _, most := range wrongDepths {
				if l, e := Of(s, from, most); len(l) != 0 || e != api.ErrArg {
					t.Errorf("Of(%d): %v, %d", most, l, e)
				}
			}
		}
	}
	if h.changed() {
		t.Error("Of changed the store")
	}
}

// P13.1, P0: no starting ids, no objects, and no store.
func TestOfNothing(t *testing.T) {
	h := newHistory(t)
	tip := h.commit(2, h.tree(), h.commit(1, h.tree()))
	for _, most := range []int{1, 2, api.AllDepth} {
		for _, from := range [][]api.Id{nil, {}} {
			checkOf(t, h, from, most, nil)
		}
		for _, s := range []*store.Store{nil, store.New()} {
			for _, from := range [][]api.Id{nil, {}, list(tip), list(tip, tip, api.Id{}, h.tag("v", tip))} {
				if l, e := Of(s, from, most); len(l) != 0 || e != api.OK {
					t.Errorf("Of from %x, %d: %v, %d", from, most, l, e)
				}
			}
		}
	}
}

// P0: results are new memory, and what lies behind the end of a list is not touched.
func TestOfMemory(t *testing.T) {
	h := newHistory(t)
	parent := h.commit(1, h.tree())
	tip := h.commit(2, h.tree(), parent)
	from := list(tip, parent, numbered(3))
	want := inOrder(append(depths(1, tip), depths(2, parent)...))
	first, _ := Of(h.s, from[:1], 9)
	second, _ := Of(h.s, from[:1], 9)
	if !slices.Equal(from, list(tip, parent, numbered(3))) {
		t.Errorf("Of changed what lies behind its list: %x", from)
	}
	from[0] = numbered(4)
	for i := range first {
		first[i] = Depth{Id: numbered(5), N: 77}
	}
	_ = append(first[:0], Depth{}, Depth{})
	if !slices.Equal(second, want) {
		t.Errorf("results share memory: %v", second)
	}
	checkOf(t, h, list(tip), 9, want)
}
