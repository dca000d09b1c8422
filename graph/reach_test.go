package graph

import (
	"slices"
	"testing"

	"knapsack/api"
	"knapsack/store"
)

// P12.1: the chapter's example.
func TestReachExample(t *testing.T) {
	h := newHistory(t)
	tree, gone := h.tree(), numbered(1)
	c := h.commit(5, tree, gone)
	checkReached(t, h, list(c), nil, list(c, tree), list(gone))
}

// P12.1: from one object of each kind.
func TestReachOfEachKind(t *testing.T) {
	h := newHistory(t)
	hi, empty := h.blob("hi"), h.blob("")
	none, small := h.tree(), h.tree(hi, empty)
	large := h.tree(small, hi, none, small)
	larger := h.tree(large, empty)
	first := h.commit(1, small)
	second := h.commit(2, larger, first)
	checkReached(t, h, list(hi), nil, list(hi), nil)
	checkReached(t, h, list(empty), nil, list(empty), nil)
	checkReached(t, h, list(none), nil, list(none), nil)
	checkReached(t, h, list(small), nil, list(small, hi, empty), nil)
	checkReached(t, h, list(large), nil, list(large, small, none, hi, empty), nil)
	checkReached(t, h, list(larger), nil, list(larger, large, small, none, hi, empty), nil)
	checkReached(t, h, list(first), nil, list(first, small, hi, empty), nil)
	checkReached(t, h, list(second), nil, list(second, larger, large, small, none, hi, empty, first), nil)
	ofBlob, ofTree, ofCommit := h.tag("b", hi), h.tag("t", small), h.tag("c", first)
	ofTag := h.tag("of a tag", ofCommit)
	checkReached(t, h, list(ofBlob), nil, list(ofBlob, hi), nil)
	checkReached(t, h, list(ofTree), nil, list(ofTree, small, hi, empty), nil)
	checkReached(t, h, list(ofCommit), nil, list(ofCommit, first, small, hi, empty), nil)
	checkReached(t, h, list(ofTag), nil, list(ofTag, ofCommit, first, small, hi, empty), nil)
}

// P12.1: a commit of eight parents, and histories that part and come together.
func TestReachOfSeveralParents(t *testing.T) {
	h := newHistory(t)
	tree, other := h.tree(), h.tree(h.blob("x"))
	var parents []api.Id
	for i := range 8 {
		parents = append(parents, h.commit(uint32(i), tree))
	}
	wide := h.commit(20, tree, parents...)
	checkReached(t, h, list(wide), nil, append(list(wide, tree), parents...), nil)
	checkReached(t, h, list(wide), list(wide), list(wide, tree), nil)
	left, right := h.commit(21, tree, wide), h.commit(22, other, wide)
	merge := h.commit(23, tree, left, right)
	all := append(list(merge, left, right, wide, tree, other, h.blob("x")), parents...)
	checkReached(t, h, list(merge), nil, all, nil)
	checkReached(t, h, list(left, right), nil, all[1:], nil)
	checkReached(t, h, list(merge), list(left, right), list(merge, left, right, tree, other, h.blob("x")), nil)
	checkReached(t, h, list(merge), list(wide), list(merge, left, right, wide, tree, other, h.blob("x")), nil)
}

// P12.1: nothing is reached without a starting id.
func TestReachFromNothing(t *testing.T) {
	h := newHistory(t)
	checkReached(t, h, nil, nil, nil, nil)
	c := h.commit(1, h.tree(h.blob("x")), numbered(1))
	for _, cut := range [][]api.Id{nil, {}, {c}, {numbered(1)}} {
		checkReached(t, h, nil, cut, nil, nil)
		checkReached(t, h, []api.Id{}, cut, nil, nil)
	}
}

// P12.1: starting ids that are not in the store are reached, and missing; the zero id is one of them, and so are those next to one that is there.
func TestReachFromMissing(t *testing.T) {
	h := newHistory(t)
	blob := h.blob("x")
	missing := list(numbered(1), api.Id{}, api.Id{31: 1}, api.Id{0: 255})
	for _, i := range []int{0, 15, 31} {
		down, up := blob, blob
		down[i]--
		up[i]++
		missing = append(missing, down, up)
	}
	for _, id := range missing {
		checkReached(t, h, list(id), nil, nil, list(id))
		checkReached(t, h, list(id, blob), list(id), list(blob), list(id))
	}
	checkReached(t, h, missing, nil, nil, missing)
	checkReached(t, h, append(missing, blob), nil, list(blob), missing)
	checkReached(t, newHistory(t), list(blob), nil, nil, list(blob))
}

// P12.1: what links of each kind lead to may be missing, and is told once.
func TestReachMissing(t *testing.T) {
	h := newHistory(t)
	a, b, c, d := numbered(4), numbered(3), numbered(2), numbered(1)
	tree := h.tree(a, b, a)
	commit := h.commit(1, d, c, a)
	tag := h.tag("v", d)
	child := h.commit(2, tree, commit, b)
	checkReached(t, h, list(tree), nil, list(tree), list(a, b))
	checkReached(t, h, list(commit), nil, list(commit), list(a, c, d))
	checkReached(t, h, list(commit), list(commit), list(commit), list(d))
	checkReached(t, h, list(tag), nil, list(tag), list(d))
	checkReached(t, h, list(child), nil, list(child, commit, tree), list(a, b, c, d))
	checkReached(t, h, list(child), list(child), list(child, tree), list(a, b))
	checkReached(t, h, list(child, tag), list(commit), list(child, commit, tree, tag), list(a, b, d))
	ofNone := h.commit(0, api.Id{})
	checkReached(t, h, list(ofNone), list(ofNone), list(ofNone), list(api.Id{}))
}

// P12.1: both lists are in increasing order, by any of the bytes, whatever the order of the starting ids.
func TestReachInOrder(t *testing.T) {
	h := newHistory(t)
	var from, missing []api.Id
	for i := range 600 {
		from = append(from, h.blob(string([]byte{byte(i), byte(i >> 8)})))
	}
	for i := range 32 {
		for _, n := range []byte{255, 1, 128, 127, 2, 254} {
			id := api.Id{}
			id[i] = n
			missing = append(missing, id)
		}
	}
	checkReached(t, h, append(slices.Clone(from), missing...), nil, from, missing)
	there, gone := Reach(h.s, append(missing, from...), nil)
	for _, l := range [][]api.Id{there, gone} {
		for i := 1; i < len(l); i++ {
			if string(l[i-1][:]) >= string(l[i][:]) {
				t.Errorf("%x behind %x", l[i], l[i-1])
			}
		}
	}
}

// P12.1: of a commit in the cut the tree is reached and the parents are not, as a start and as a parent.
func TestReachCut(t *testing.T) {
	h := newHistory(t)
	trees := list(h.tree(h.blob("1")), h.tree(h.blob("2")), h.tree(h.blob("3")), h.tree(h.blob("4")))
	blobs := list(h.blob("1"), h.blob("2"), h.blob("3"), h.blob("4"))
	var row []api.Id
	for i, tree := range trees {
		var parents []api.Id
		if i > 0 {
			parents = row[i-1:]
		}
		row = append(row, h.commit(uint32(i), tree, parents...))
	}
	upTo := func(i, j int) []api.Id { return slices.Concat(row[i:j], trees[i:j], blobs[i:j]) }
	checkReached(t, h, row[3:], nil, upTo(0, 4), nil)
	for i := range row {
		checkReached(t, h, row[3:], row[i:i+1], upTo(i, 4), nil)
		checkReached(t, h, row[i:i+1], row[i:i+1], upTo(i, i+1), nil)
		checkReached(t, h, row[:i+1], row, upTo(0, i+1), nil)
		checkReached(t, h, row[3:], row[i:], upTo(3, 4), nil)
		checkReached(t, h, row[i:], nil, upTo(0, 4), nil)
		checkReached(t, h, list(h.tag("v", row[i])), list(row[i]), append(upTo(i, i+1), h.tag("v", row[i])), nil)
	}
	checkReached(t, h, row[3:], list(row[0], row[2]), upTo(2, 4), nil)
}

// P12.1: only commits have parents, so that other ids in the cut, and ids that are not in the store, cut nothing.
func TestReachCutOfOthers(t *testing.T) {
	h := newHistory(t)
	blob := h.blob("x")
	tree := h.tree(blob)
	outer := h.tree(tree)
	gone := numbered(1)
	first := h.commit(1, tree, gone)
	second := h.commit(2, outer, first)
	inner := h.tag("v", second)
	tag := h.tag("w", inner)
	elsewhere := h.commit(3, tree)
	all := list(tag, inner, second, first, outer, tree, blob)
	for _, cut := range [][]api.Id{{blob}, {tree}, {outer}, {inner}, {tag}, {gone}, {numbered(2)}, {{}}, {elsewhere}} {
		checkReached(t, h, list(tag), cut, all, list(gone))
	}
	checkReached(t, h, list(tag), list(blob, tree, outer, inner, tag, gone, numbered(2), elsewhere), all, list(gone))
	checkReached(t, h, list(blob, tree), list(blob, tree), list(blob, tree), nil)
	checkReached(t, h, list(gone), list(gone), nil, list(gone))
}

// P12.1: what is reached by two ways, one of them cut, is reached by the other one.
func TestReachTwoWays(t *testing.T) {
	h := newHistory(t)
	tree := h.tree()
	gone := numbered(1)
	base := h.commit(1, tree, gone)
	left, right := h.commit(2, tree, base), h.commit(3, tree, base)
	merge := h.commit(4, tree, left, right)
	checkReached(t, h, list(merge), list(left), list(merge, left, right, base, tree), list(gone))
	checkReached(t, h, list(merge), list(right), list(merge, left, right, base, tree), list(gone))
	checkReached(t, h, list(merge), list(left, right), list(merge, left, right, tree), nil)
	checkReached(t, h, list(merge, base), list(left, right), list(merge, left, right, base, tree), list(gone))
	checkReached(t, h, list(merge, gone), list(left, right), list(merge, left, right, tree), list(gone))
	tag := h.tag("v", base)
	checkReached(t, h, list(merge, tag), list(left, right, base), list(merge, left, right, tag, base, tree), nil)
	asTree := h.commit(5, base, base)
	checkReached(t, h, list(asTree), list(asTree), list(asTree, base, tree), list(gone))
	inTree := h.commit(6, h.tree(left), left)
	checkReached(t, h, list(inTree), list(inTree, left), list(inTree, h.tree(left), left, tree), nil)
	straight := h.commit(7, tree, merge, base)
	checkReached(t, h, list(straight), list(merge), list(straight, merge, base, tree), list(gone))
}

// P12.1: links are followed to whatever is under their id, be it of the kind that they say or not.
func TestReachOfOtherKinds(t *testing.T) {
	h := newHistory(t)
	blob := h.blob("x")
	tree := h.tree(blob)
	first := h.commit(1, blob)
	second := h.commit(2, first, tree, blob, h.tag("v", tree))
	checkReached(t, h, list(first), nil, list(first, blob), nil)
	checkReached(t, h, list(second), nil, list(second, first, tree, blob, h.tag("v", tree)), nil)
	checkReached(t, h, list(second), list(second), list(second, first, blob), nil)
	lying := h.put(api.Object{Kind: api.Tag, Of: api.Blob, Target: second, Name: "v"})
	within := h.put(api.Object{Kind: api.Tree, Entries: []api.Entry{{Name: "a", Kind: api.Blob, Id: lying}, {Name: "b", Kind: api.Tree, Id: blob}}})
	checkReached(t, h, list(within), nil, list(within, lying, second, first, tree, blob, h.tag("v", tree)), nil)
	checkReached(t, h, list(within), list(second), list(within, lying, second, first, blob), nil)
}

// P12.1: from several objects, and from all.
func TestReachFromSeveral(t *testing.T) {
	h := newHistory(t)
	a, b, c := h.blob("a"), h.blob("b"), h.blob("c")
	one, two := h.tree(a, b), h.tree(b, c)
	first, side := h.commit(1, one), h.commit(1, two, numbered(1))
	checkReached(t, h, list(a, c), nil, list(a, c), nil)
	checkReached(t, h, list(one, c), nil, list(one, a, b, c), nil)
	checkReached(t, h, list(one, two), nil, list(one, two, a, b, c), nil)
	checkReached(t, h, list(first, two), nil, list(first, one, two, a, b, c), nil)
	checkReached(t, h, list(first, side, a), list(side), list(first, side, one, two, a, b, c), nil)
	checkReached(t, h, h.ids, nil, h.ids, list(numbered(1)))
	checkReached(t, h, h.ids, h.ids, h.ids, nil)
}

// P12.1: long rows of commits, tags and trees.
func TestReachFar(t *testing.T) {
	const n = 3000
	h := newHistory(t)
	tree := h.tree()
	last := h.commit(0, tree)
	commits := list(last)
	for i := range n {
		last = h.commit(uint32(i), tree, last)
		commits = append(commits, last)
	}
	checkReach(t, h, list(last), nil, sorted(append(commits, tree)...), nil)
	checkReach(t, h, list(last), commits[n/2:n/2+1], sorted(append(commits[n/2:], tree)...), nil)
	inner := tree
	for range n {
		inner = h.tree(inner)
	}
	tag := h.chain(n, inner)
	there, missing := Reach(h.s, list(tag), nil)
	if len(there) != 2*n+1 || len(missing) != 0 {
		t.Errorf("%d there, %d missing", len(there), len(missing))
	}
}

// P12.1, P0: a nil store has no objects; a nil list is an empty one.
func TestReachNil(t *testing.T) {
	h := newHistory(t)
	tree := h.tree()
	c := h.commit(1, tree, numbered(1))
	for _, from := range [][]api.Id{nil, {}, {c}, {c, tree, c}, {{}}, {numbered(2), numbered(1)}} {
		for _, cut := range [][]api.Id{nil, {}, {c}, {{}}} {
			there, missing := Reach(nil, from, cut)
			if len(there) != 0 || !slices.Equal(missing, slices.Compact(sorted(from...))) {
				t.Errorf("Reach in nil from %x: %x, %x", from, there, missing)
			}
		}
	}
	there, missing := Reach(store.New(), list(c), nil)
	if len(there) != 0 || !slices.Equal(missing, list(c)) {
		t.Errorf("Reach in an empty store: %x, %x", there, missing)
	}
}

// P12.1: many histories, against the second reading, with starting ids and cuts of all sorts.
func TestReachMany(t *testing.T) {
	for seed := range uint64(60) {
		h, d := manyObjects(t, 10+int(seed), seed), &draws{x: seed + 1000}
		for range 30 {
			from, cut := d.some(4, h.ids), d.some(12, h.ids)
			there, missing := h.toldReach(from, cut)
			checkReach(t, h, from, cut, there, missing)
			there, missing = h.toldReach(from, nil)
			checkReach(t, h, from, nil, there, missing)
		}
		there, missing := h.toldReach(h.ids, nil)
		checkReached(t, h, h.ids, nil, there, missing)
		there, missing = h.toldReach(h.ids, h.ids)
		checkReached(t, h, h.ids, h.ids, there, missing)
	}
}

// has tells whether a list has all of another one.
func has(l, part []api.Id) bool {
	return !slices.ContainsFunc(part, func(id api.Id) bool { return !slices.Contains(l, id) })
}

// P12.3: more starting ids, or a smaller cut, reach at least as much.
func TestReachMore(t *testing.T) {
	grown := 0
	for seed := range uint64(40) {
		h, d := manyObjects(t, 50, 200+seed), &draws{x: seed}
		for range 20 {
			from, cut := d.some(3, h.ids), d.some(30, h.ids)
			there, missing := Reach(h.s, from, cut)
			more := append(slices.Clone(from), d.some(3, h.ids)...)
			less := cut[:d.below(len(cut)+1)]
			moreThere, moreMissing := Reach(h.s, more, less)
			if !has(moreThere, there) || !has(moreMissing, missing) {
				t.Errorf("from %x, cut %x: %x, %x; from %x, cut %x: %x, %x", from, cut, there, missing, more, less, moreThere, moreMissing)
			}
			if len(moreThere) > len(there) {
				grown++
			}
		}
	}
	if grown < 100 {
		t.Errorf("only %d grew", grown)
	}
}

// P0 (R3): the lists of an answer are new, each with its own memory.
func TestReachIsNew(t *testing.T) {
	h := newHistory(t)
	blob, gone := h.blob("x"), numbered(1)
	from, cut := list(h.tree(blob, gone), blob, gone), list(blob, gone)
	from2, cut2 := slices.Clone(from), slices.Clone(cut)
	there, missing := Reach(h.s, from, cut)
	wantThere, wantMissing := slices.Clone(there), slices.Clone(missing)
	clear(there[:cap(there)])
	if !slices.Equal(missing, wantMissing) {
		t.Error("there and missing share memory")
	}
	clear(missing[:cap(missing)])
	if !slices.Equal(from, from2) || !slices.Equal(cut, cut2) || h.changed() {
		t.Error("an answer shares memory with an argument")
	}
	checkReach(t, h, from, cut, wantThere, wantMissing)
	missing2 := list(gone, numbered(3), numbered(2))
	_, l := Reach(h.s, missing2[:2], nil)
	clear(l[:cap(l)])
	if !slices.Equal(missing2, list(gone, numbered(3), numbered(2))) {
		t.Errorf("changed: %x", missing2)
	}
}

// P0 (R3): what stands behind the end of a list is neither read nor written.
func TestReachBehindLists(t *testing.T) {
	h := newHistory(t)
	tree := h.tree(h.blob("x"), h.blob("y"))
	c := h.commit(1, tree, numbered(1), numbered(2))
	room := list(c, numbered(5), numbered(6), numbered(7), numbered(8), numbered(9))
	cuts := list(numbered(5), c, numbered(6))
	whole, wholeCut := slices.Clone(room), slices.Clone(cuts)
	checkReach(t, h, room[:1], cuts[:1], sorted(c, tree, h.blob("x"), h.blob("y")), sorted(numbered(1), numbered(2)))
	checkWalk(t, h, room[:1], cuts[:1], c)
	if !slices.Equal(room, whole) || !slices.Equal(cuts, wholeCut) {
		t.Errorf("changed: %x, %x", room, cuts)
	}
}

// P0 (R4): the same answers again and again, also when the store grows with what has no part in them.
func TestSameAgain(t *testing.T) {
	h := manyObjects(t, 80, 5)
	from, cut := slices.Clone(h.ids[60:]), slices.Clone(h.ids[10:30])
	there, missing := h.toldReach(from, cut)
	listed := h.toldWalk(from, cut)
	for i := range 20 {
		checkReach(t, h, from, cut, there, missing)
		checkWalk(t, h, from, cut, listed...)
		h.commit(uint32(i), numbered(i), h.ids[i])
	}
}
