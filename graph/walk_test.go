package graph

import (
	"math"
	"slices"
	"testing"

	"knapsack/api"
	"knapsack/store"
)

// P12.2: the chapter's example.
func TestWalkExample(t *testing.T) {
	h := newHistory(t)
	parent := h.commit(9, h.tree())
	child := h.commit(5, h.tree(), parent)
	checkWalked(t, h, list(child), nil, child, parent)
	checkWalked(t, h, list(child, parent), nil, parent, child)
}

// P12.2: rows of commits, from each of them.
func TestWalkOfRow(t *testing.T) {
	h := newHistory(t)
	var row []api.Id // the newest first
	for i := range 10 {
		row = append(list(h.commit(uint32(i), h.tree(), row[:min(i, 1)]...)), row...)
	}
	for i := range row {
		checkWalked(t, h, row[i:i+1], nil, row[i:]...)
		checkWalked(t, h, row[i:], nil, row[i:]...)
		checkWalked(t, h, list(row[9], row[i]), nil, row[i:]...)
		checkWalked(t, h, row[:1], row[i:i+1], row[:i+1]...)
		checkWalked(t, h, row[i:i+1], row[i:i+1], row[i])
	}
	checkWalked(t, h, row, row, row...)
}

// P12.2: histories that part and come together, from one commit and from several.
func TestWalkOfBranches(t *testing.T) {
	h := newHistory(t)
	tree := h.tree(h.blob("x"))
	root := h.commit(1, tree)
	left1, right1 := h.commit(2, tree, root), h.commit(3, tree, root)
	left2, right2 := h.commit(5, tree, left1), h.commit(4, tree, right1)
	merge := h.commit(6, tree, left2, right2)
	alone := h.commit(3, h.tree())
	checkWalked(t, h, list(merge), nil, merge, left2, right2, right1, left1, root)
	checkWalked(t, h, list(left2), nil, left2, left1, root)
	checkWalked(t, h, list(left2, right1), nil, left2, right1, left1, root)
	checkWalked(t, h, list(right2, left1), nil, right2, right1, left1, root)
	checkWalked(t, h, list(root, merge), nil, merge, left2, right2, right1, left1, root)
	checkWalked(t, h, list(merge), list(left1), merge, left2, right2, right1, left1, root)
	checkWalked(t, h, list(merge), list(left1, right1), merge, left2, right2, right1, left1)
	checkWalked(t, h, list(merge), list(right2, left2), merge, left2, right2)
	checkWalked(t, h, list(merge, root), list(right2, left2), merge, left2, right2, root)
	checkWalked(t, h, list(merge), list(merge), merge)
	checkWalked(t, h, list(merge, left1), list(merge), merge, left1, root)
	both := list(right1, alone)
	if before(alone, right1) {
		slices.Reverse(both)
	}
	checkWalked(t, h, list(alone, right1), nil, append(both, root)...)
}

// P12.2: a commit of eight parents lists them by their times.
func TestWalkOfSeveralParents(t *testing.T) {
	h := newHistory(t)
	var parents []api.Id
	for _, time := range []uint32{3, 9, 1, 7, 200, 5, 70000, 2} {
		parents = append(parents, h.commit(time, h.tree()))
	}
	c := h.commit(4, h.tree(), parents...)
	p := parents
	checkWalked(t, h, list(c), nil, c, p[6], p[4], p[1], p[3], p[5], p[0], p[7], p[2])
	checkWalked(t, h, list(c), list(c), c)
	checkWalked(t, h, append(list(c), parents...), list(c), p[6], p[4], p[1], p[3], p[5], c, p[0], p[7], p[2])
	twice := h.commit(4, h.tree(), p[0], p[1], p[0], p[0], p[1])
	checkWalked(t, h, list(twice), nil, twice, p[1], p[0])
}

// P12.2: times are compared as what they are, up to the greatest one.
func TestWalkOfTimes(t *testing.T) {
	h := newHistory(t)
	times := []uint32{math.MaxUint32, math.MaxUint32 - 1, 1<<31 + 1, 1 << 31, math.MaxInt32, 1 << 24, 65536, 65535, 256, 255, 2, 1, 0}
	var listed []api.Id
	for _, time := range times {
		listed = append(listed, h.commit(time, h.tree()))
	}
	checkWalked(t, h, listed, nil, listed...)
	for i := range listed {
		for j := range i {
			checkWalked(t, h, list(listed[i], listed[j]), nil, listed[j], listed[i])
		}
	}
}

// P12.2: of equal times, the smallest id is first, among starting ids and among parents.
func TestWalkOfEqualTimes(t *testing.T) {
	h := newHistory(t)
	var from []api.Id
	for i := range 300 {
		from = append(from, h.other(string(rune('a'+i)), 5, numbered(i)))
	}
	checkWalked(t, h, from, nil, sorted(from...)...)
	checkWalked(t, h, from, from, sorted(from...)...)
	for i := 8; i < len(from); i += 8 {
		parents := from[i-8 : i]
		checkWalked(t, h, list(h.commit(5, h.tree(), parents...)), nil, append(list(h.commit(5, h.tree(), parents...)), sorted(parents...)...)...)
	}
}

// P12.2: parents of the same time as their child become candidates behind it, and are then held against those that are left.
func TestWalkOfEqualRows(t *testing.T) {
	for _, time := range []uint32{0, 7, math.MaxUint32} {
		h := newHistory(t)
		var tips []api.Id
		for i := range 20 {
			last := h.other("root", time, numbered(i))
			for range 5 {
				last = h.commit(time, numbered(i), last)
			}
			tips = append(tips, last)
		}
		checkWalked(t, h, tips, nil, h.toldWalk(tips, nil)...)
		for i, tip := range tips {
			checkWalked(t, h, list(tip), nil, h.ids[6*i+5], h.ids[6*i+4], h.ids[6*i+3], h.ids[6*i+2], h.ids[6*i+1], h.ids[6*i])
		}
	}
}

// P12.2: parents with greater times than their children; what was listed is no candidate again.
func TestWalkOfLaterParents(t *testing.T) {
	h := newHistory(t)
	tree := h.tree()
	root := h.commit(50, tree)
	a, b := h.commit(40, tree, root), h.commit(10, tree, root)
	c := h.commit(20, tree, b)
	tip := h.commit(1, tree, c, a)
	checkWalked(t, h, list(tip), nil, tip, a, root, c, b)
	checkWalked(t, h, list(tip, b), nil, b, root, tip, a, c)
	checkWalked(t, h, list(c, a), nil, a, root, c, b)
	checkWalked(t, h, list(c), nil, c, b, root)
	checkWalked(t, h, list(c, root), nil, root, c, b)
	checkWalked(t, h, list(tip), list(a), tip, a, c, b, root)
	last := h.commit(0, tree, tip, root, a)
	checkWalked(t, h, list(last), nil, last, root, a, tip, c, b)
}

// P12.2: a walk starts from the ends of the ids, as far as they are commits.
func TestWalkFromEnds(t *testing.T) {
	h := newHistory(t)
	blob := h.blob("x")
	tree := h.tree(blob)
	first := h.commit(1, tree)
	second := h.commit(2, tree, first)
	tag := h.tag("v", second)
	ofTag := h.tag("w", tag)
	lying := h.put(api.Object{Kind: api.Tag, Of: api.Blob, Target: second, Name: "v"})
	for _, from := range [][]api.Id{{tag}, {ofTag}, {lying}, {tag, ofTag, lying, second}, {second, tag}, {first, ofTag}, {h.chain(30, second)}} {
		checkWalked(t, h, from, nil, second, first)
		checkWalked(t, h, append(list(blob, tree, numbered(1)), from...), nil, second, first)
	}
	for _, id := range list(blob, tree, h.tag("b", blob), h.tag("t", tree), h.tag("g", numbered(1)), h.tag("u", h.tag("b", blob)), numbered(1), api.Id{}) {
		checkWalked(t, h, list(id), nil)
		checkWalked(t, h, list(id), list(id))
		checkWalked(t, h, list(id, second), list(id), second, first)
	}
	checkWalked(t, h, list(tag, h.tag("old", first)), nil, second, first)
	checkWalked(t, h, list(tag, h.tag("old", first)), list(second), second, first)
	checkWalked(t, h, list(tag), list(tag, ofTag), second, first)
	checkWalked(t, h, list(tag), list(second), second)
}

// P12.2: nothing is walked without a starting id.
func TestWalkFromNothing(t *testing.T) {
	h := newHistory(t)
	checkWalked(t, h, nil, nil)
	c := h.commit(1, h.tree())
	for _, cut := range [][]api.Id{nil, {}, {c}} {
		checkWalked(t, h, nil, cut)
		checkWalked(t, h, []api.Id{}, cut)
	}
}

// P12.2: parents that are not in the store, and those that are no commits, are ignored; a tag of a commit is none.
func TestWalkOfOtherParents(t *testing.T) {
	h := newHistory(t)
	blob, gone := h.blob("x"), numbered(1)
	tree := h.tree(blob)
	first, tagged := h.commit(1, tree), h.commit(2, tree)
	tag := h.tag("v", tagged)
	checkWalked(t, h, list(h.commit(3, tree, gone)), nil, h.commit(3, tree, gone))
	checkWalked(t, h, list(h.commit(3, tree, blob, tree, tag)), nil, h.commit(3, tree, blob, tree, tag))
	c := h.commit(4, tree, gone, first, tag, blob, api.Id{}, tree)
	checkWalked(t, h, list(c), nil, c, first)
	checkWalked(t, h, list(c, tag), nil, c, tagged, first)
	asTree := h.commit(5, first)
	checkWalked(t, h, list(asTree), nil, asTree)
}

// P12.2: ids in the cut that are no commits, or are not in the store, cut nothing.
func TestWalkCutOfOthers(t *testing.T) {
	h := newHistory(t)
	blob, gone := h.blob("x"), numbered(1)
	tree := h.tree(blob)
	first := h.commit(1, tree, gone)
	second := h.commit(2, tree, first)
	tag := h.tag("v", second)
	for _, cut := range [][]api.Id{{blob}, {tree}, {tag}, {gone}, {numbered(2)}, {{}}, {blob, tree, tag, gone}, {h.commit(9, tree)}} {
		checkWalked(t, h, list(tag), cut, second, first)
	}
}

// P12.2: a long row, and very many starting ids.
func TestWalkFar(t *testing.T) {
	const n = 3000
	h := newHistory(t)
	row := list(h.commit(0, h.tree()))
	for i := range n {
		row = append(row, h.commit(uint32(i), h.tree(), row[i]))
	}
	slices.Reverse(row)
	checkWalk(t, h, row[:1], nil, row...)
	checkWalk(t, h, row[:1], row[n/2:n/2+1], row[:n/2+1]...)
	got := Walk(h.s, h.s.Ids(), h.s.Ids())
	if len(got) != n+1 || got[0] != row[0] {
		t.Errorf("%d commits, the first %x", len(got), got[0])
	}
}

// P12.2, P0: a nil store has no commits; a nil list is an empty one.
func TestWalkNil(t *testing.T) {
	h := newHistory(t)
	c := h.commit(1, h.tree(), numbered(1))
	for _, s := range []*store.Store{nil, store.New()} {
		for _, from := range [][]api.Id{nil, {}, {c}, {h.tag("v", c)}, {{}}, {numbered(2), numbered(1)}} {
			for _, cut := range [][]api.Id{nil, {}, {c}, {{}}} {
				if l := Walk(s, from, cut); len(l) != 0 {
					t.Errorf("Walk from %x: %x", from, l)
				}
			}
		}
	}
	checkWalk(t, h, list(c), nil, c)
	checkWalk(t, h, list(c), []api.Id{}, c)
}

// P12.2: many histories, against the second reading, with starting ids and cuts of all sorts.
func TestWalkMany(t *testing.T) {
	for seed := range uint64(60) {
		h, d := manyObjects(t, 10+2*int(seed), 500+seed), &draws{x: seed + 2000}
		for range 30 {
			from, cut := d.some(4, h.ids), d.some(12, h.ids)
			checkWalk(t, h, from, cut, h.toldWalk(from, cut)...)
			checkWalk(t, h, from, nil, h.toldWalk(from, nil)...)
		}
		checkWalked(t, h, h.ids, nil, h.toldWalk(h.ids, nil)...)
		checkWalked(t, h, h.ids, h.ids, h.toldWalk(h.ids, h.ids)...)
	}
}

// P12.3: commits that are walked are reached, and each of them is listed once.
func TestWalkedIsReached(t *testing.T) {
	for seed := range uint64(40) {
		h, d := manyObjects(t, 80, 700+seed), &draws{x: seed}
		for range 20 {
			from, cut := d.some(4, h.ids), d.some(10, h.ids)
			listed := Walk(h.s, from, cut)
			there, _ := Reach(h.s, from, cut)
			if !has(there, listed) {
				t.Errorf("from %x, cut %x: %x is walked, %x is reached", from, cut, listed, there)
			}
			if len(slices.Compact(sorted(listed...))) != len(listed) {
				t.Errorf("from %x, cut %x: %x", from, cut, listed)
			}
			for _, id := range listed {
				if h.s.Kind(id) != api.Commit {
					t.Errorf("%x is no commit", id)
				}
			}
		}
	}
}

// P12.3: each commit but those from which the walk starts stands behind one of its children, one that is not in the cut.
func TestWalkedBehindChild(t *testing.T) {
	far := 0
	for seed := range uint64(40) {
		h, d := manyObjects(t, 80, 800+seed), &draws{x: seed}
		for range 20 {
			from, cut := d.some(4, h.ids), d.some(10, h.ids)
			var starts []api.Id
			for _, id := range from {
				end, _ := End(h.s, id)
				starts = append(starts, end)
			}
			listed := Walk(h.s, from, cut)
			for i, id := range listed {
				isChild := func(c api.Id) bool {
					return !slices.Contains(cut, c) && slices.Contains(h.objects[c].Parents, id)
				}
				if slices.Contains(starts, id) {
					continue
				}
				far++
				if !slices.ContainsFunc(listed[:i], isChild) {
					t.Errorf("from %x, cut %x: %x, place %d", from, cut, listed, i)
				}
			}
		}
	}
	if far < 1000 {
		t.Errorf("only %d commits", far)
	}
}

// P0 (R3): a walk is new.
func TestWalkIsNew(t *testing.T) {
	h := newHistory(t)
	parent := h.commit(1, h.tree())
	from := list(h.commit(2, h.tree(), parent), parent)
	cut := slices.Clone(from[1:])
	from2, cut2 := slices.Clone(from), slices.Clone(cut)
	a, b := Walk(h.s, from, cut), Walk(h.s, from, cut)
	clear(a[:cap(a)])
	if !slices.Equal(b, from2) || !slices.Equal(from, from2) || !slices.Equal(cut, cut2) || h.changed() {
		t.Error("a walk shares memory")
	}
}
