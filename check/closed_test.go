package check

import (
	"slices"
	"strconv"
	"testing"

	"knapsack/api"
	"knapsack/store"
)

// P14.1: objects of each kind whose links are sound.
func TestClosedOfEachKind(t *testing.T) {
	h := newHistory(t)
	hi, empty := h.blob("hi"), h.blob("")
	none, small := h.tree(), h.tree(hi, empty)
	large := h.tree(small, hi, none, small)
	first := h.commit(1, small)
	second := h.commit(2, large, first)
	merge := h.commit(3, none, second, first)
	all := list(hi, empty, none, small, large, first, second, merge)
	for _, id := range slices.Clone(all) {
		tag := h.tag("v", id)
		all = append(all, tag, h.tag("w", tag))
	}
	for _, id := range all {
		checkClosed(t, h, list(id), nil, api.OK)
		checkClosed(t, h, list(id), all, api.OK)
		checkClosed(t, h, list(id), list(numbered(1), api.Id{}), api.OK)
	}
	checkClosed(t, h, all, nil, api.OK)
	checkClosed(t, h, all, all, api.OK)
	checkUnchanged(t, h)
}

// P14.1: no ids are closed, whatever the store has.
func TestClosedOfNothing(t *testing.T) {
	h := newHistory(t)
	c := h.commit(1, numbered(1), numbered(2))
	for _, cut := range [][]api.Id{nil, {}, {c}, {numbered(1)}} {
		checkClosed(t, h, nil, cut, api.OK)
		checkClosed(t, h, []api.Id{}, cut, api.OK)
		checkClosed(t, newHistory(t), nil, cut, api.OK)
	}
	checkUnchanged(t, h)
}

// P14.1: ids that are not in the store are not closed, nor are lists with one of them; the cut does not help.
func TestClosedOfMissing(t *testing.T) {
	h := newHistory(t)
	blob := h.blob("x")
	c := h.commit(1, h.tree(blob))
	missing := append(near(c), append(near(blob), api.Id{}, numbered(1))...)
	for _, id := range missing {
		for _, cut := range [][]api.Id{nil, {id}, {c, id}} {
			checkClosed(t, h, list(id), cut, api.ErrLink)
			checkClosed(t, h, list(blob, c, id), cut, api.ErrLink)
			checkClosed(t, h, list(id, c, blob), cut, api.ErrLink)
		}
	}
	checkClosed(t, h, missing, nil, api.ErrLink)
	checkClosed(t, h, list(blob, c), missing, api.OK)
	checkClosed(t, newHistory(t), list(blob), nil, api.ErrLink)
	checkUnchanged(t, h)
}

// P14.1: what each sort of link leads to must be there; next to it does not count.
func TestClosedWithMissingLinks(t *testing.T) {
	h := newHistory(t)
	blob := h.blob("x")
	tree := h.tree(blob)
	first := h.commit(1, tree)
	tag := h.tag("v", first)
	for _, gone := range append(near(blob), append(near(tree), append(near(first), numbered(1), api.Id{})...)...) {
		for _, kind := range []int{api.Blob, api.Tree} {
			checkClosed(t, h, list(h.treeOf(kind, gone)), nil, api.ErrLink)
		}
		for of := api.Blob; of <= api.Tag; of++ {
			checkClosed(t, h, list(h.tagOf(of, "g", gone)), nil, api.ErrLink)
		}
		checkClosed(t, h, list(h.commit(2, gone)), nil, api.ErrLink)
		checkClosed(t, h, list(h.commit(2, gone, first)), nil, api.ErrLink)
		checkClosed(t, h, list(h.commit(2, tree, gone)), nil, api.ErrLink)
		checkClosed(t, h, list(tag, h.commit(2, tree, first, gone)), nil, api.ErrLink)
	}
	checkClosed(t, h, list(tag, first, tree, blob), nil, api.OK)
	checkUnchanged(t, h)
}

// P14.1: what a link leads to must have the kind that the link says: every kind that is said, with every kind that is there.
func TestClosedWithOtherKinds(t *testing.T) {
	h := newHistory(t)
	blob := h.blob("x")
	tree := h.tree(blob)
	c := h.commit(1, tree)
	there := list(blob, tree, c, h.tag("v", c))
	for i, id := range there {
		is := i + 1
		right := func(said int) api.Errno {
			if said == is {
				return api.OK
			}
			return api.ErrLink
		}
		for _, said := range []int{api.Blob, api.Tree} {
			checkClosed(t, h, list(h.treeOf(said, id)), nil, right(said))
		}
		for said := api.Blob; said <= api.Tag; said++ {
			checkClosed(t, h, list(h.tagOf(said, "v", id)), nil, right(said))
		}
		checkClosed(t, h, list(h.commit(2, id)), nil, right(api.Tree))
		checkClosed(t, h, list(h.commit(2, id, c)), nil, right(api.Tree))
		checkClosed(t, h, list(h.commit(2, tree, id)), nil, right(api.Commit))
		checkClosed(t, h, list(h.commit(2, tree, c, id)), nil, right(api.Commit))
	}
	checkClosed(t, h, there, nil, api.OK)
	checkUnchanged(t, h)
}

// P14.1: one fault at each place of the widest tree, and of a commit with the most parents.
func TestClosedAtEachPlace(t *testing.T) {
	h := newHistory(t)
	blob := h.blob("x")
	tree := h.tree(blob)
	c := h.commit(1, tree)
	entry := func(i, kind int, id api.Id) api.Entry {
		return api.Entry{Name: "n" + strconv.Itoa(100+i), Kind: kind, Id: id}
	}
	var entries []api.Entry
	var parents []api.Id
	for i := range api.MaxEntries {
		entries = append(entries, entry(i, api.Blob, h.blob(strconv.Itoa(i))))
	}
	for i := range api.MaxParents {
		parents = append(parents, h.commit(uint32(i), tree, c))
	}
	checkClosed(t, h, list(h.put(api.Object{Kind: api.Tree, Entries: entries})), nil, api.OK)
	checkClosed(t, h, list(h.commit(9, tree, parents...)), nil, api.OK)
	for i := range entries {
		for _, wrong := range []api.Entry{entry(i, api.Blob, numbered(1)), entry(i, api.Blob, tree), entry(i, api.Tree, entries[i].Id), entry(i, api.Tree, c)} {
			l := slices.Clone(entries)
			l[i] = wrong
			checkClosed(t, h, list(h.put(api.Object{Kind: api.Tree, Entries: l})), nil, api.ErrLink)
		}
	}
	for i := range parents {
		for _, wrong := range list(numbered(1), tree, blob, h.tag("v", c)) {
			l := slices.Clone(parents)
			l[i] = wrong
			id := h.commit(9, tree, l...)
			checkClosed(t, h, list(id), nil, api.ErrLink)
			checkClosed(t, h, list(id), parents, api.ErrLink)
			checkClosed(t, h, list(id), list(id), api.OK)
		}
	}
	checkUnchanged(t, h)
}

// P14.1: an object that one link says rightly, and another one wrongly.
func TestClosedOfTwoKinds(t *testing.T) {
	h := newHistory(t)
	blob, none := h.blob("x"), h.tree()
	both := func(a, b int) api.Id {
		return h.put(api.Object{Kind: api.Tree, Entries: []api.Entry{{Name: "a", Kind: a, Id: blob}, {Name: "b", Kind: b, Id: blob}}})
	}
	checkClosed(t, h, list(both(api.Blob, api.Blob)), nil, api.OK)
	checkClosed(t, h, list(both(api.Blob, api.Tree)), nil, api.ErrLink)
	checkClosed(t, h, list(both(api.Tree, api.Blob)), nil, api.ErrLink)
	checkClosed(t, h, list(blob, h.treeOf(api.Tree, blob)), nil, api.ErrLink)
	asTree := h.commit(2, none, none)
	checkClosed(t, h, list(asTree), nil, api.ErrLink)
	checkClosed(t, h, list(asTree), list(asTree), api.OK)
	asParent := h.commit(2, h.commit(1, none), h.commit(1, none))
	checkClosed(t, h, list(asParent), nil, api.ErrLink)
	checkClosed(t, h, list(asParent), list(asParent), api.ErrLink)
	gone := h.commit(2, numbered(1), numbered(1))
	checkClosed(t, h, list(gone), nil, api.ErrLink)
	checkClosed(t, h, list(gone), list(gone), api.ErrLink)
}

// P14.1: a fault far away is found from wherever it is reached, and from nowhere else.
func TestClosedFar(t *testing.T) {
	const n = 30
	for _, kind := range []int{api.Blob, api.Tree} {
		for _, wrong := range []string{"gone", "of another kind"} {
			h := newHistory(t)
			sound := h.row(n, h.tree(h.blob("y")))
			target := numbered(1)
			if wrong != "gone" {
				target = sound[0]
			}
			trees := list(h.treeOf(kind, target))
			for i := range n {
				trees = append(trees, h.treeOf(api.Tree, trees[i]))
			}
			row := h.row(n, trees[n])
			tags := list(h.tag("v", row[n-1]))
			for i := range n {
				tags = append(tags, h.tag("v", tags[i]))
			}
			for _, id := range slices.Concat(trees, row, tags) {
				checkClosed(t, h, list(id), nil, api.ErrLink)
				checkClosed(t, h, list(id), list(id), api.ErrLink)
				checkClosed(t, h, append(list(id), sound...), nil, api.ErrLink)
			}
			checkClosed(t, h, sound, nil, api.OK)
			checkClosed(t, h, sound[n-1:], nil, api.OK)
			checkUnchanged(t, h)
		}
	}
}

// P14.1: of a commit in the cut the parents may be missing or of any kind, and of no other commit; its tree counts.
func TestClosedCut(t *testing.T) {
	const n = 12
	h := newHistory(t)
	blob := h.blob("x")
	tree := h.tree(blob)
	for _, wrong := range [][]api.Id{{numbered(1)}, {{}}, {tree}, {blob}, {h.tag("v", h.commit(1, tree))}, {numbered(1), tree, h.commit(1, tree), numbered(2)}} {
		row := h.row(n, tree, wrong...)
		for i := range row {
			for j := range row {
				want := api.ErrLink
				if j <= i {
					want = api.OK // the walk from i ends at j
				}
				checkClosed(t, h, row[i:i+1], row[j:j+1], want)
			}
			checkClosed(t, h, row[i:i+1], nil, api.ErrLink)
			checkClosed(t, h, row[i:i+1], wrong, api.ErrLink)
			checkClosed(t, h, row[i:i+1], row, api.OK)
			checkClosed(t, h, list(h.tag("v", row[i])), row[:1], api.OK)
		}
		checkClosed(t, h, append(slices.Clone(row), wrong...), row, h.toldClosed(wrong, nil))
	}
	checkUnchanged(t, h)
}

// P14.1: the tree of a commit in the cut must be sound.
func TestClosedCutTree(t *testing.T) {
	h := newHistory(t)
	blob := h.blob("x")
	c := h.commit(1, h.tree(blob))
	for _, tree := range list(numbered(1), api.Id{}, blob, c, h.tag("v", h.tree(blob)), h.treeOf(api.Blob, numbered(2)), h.treeOf(api.Tree, blob)) {
		for _, parents := range [][]api.Id{nil, {c}, {numbered(3)}} {
			id := h.commit(2, tree, parents...)
			checkClosed(t, h, list(id), list(id), api.ErrLink)
			checkClosed(t, h, list(id), h.ids, api.ErrLink)
		}
	}
	checkUnchanged(t, h)
}

// P14.1: ways around a commit in the cut: what one cut hides, another way may reach.
func TestClosedAroundCut(t *testing.T) {
	h := newHistory(t)
	tree := h.tree(h.blob("x"))
	root := h.commit(1, tree, numbered(1))
	left, right := h.commit(2, tree, root), h.commit(3, tree, root)
	merge := h.commit(4, tree, left, right)
	checkClosed(t, h, list(merge), nil, api.ErrLink)
	checkClosed(t, h, list(merge), list(left), api.ErrLink)
	checkClosed(t, h, list(merge), list(right), api.ErrLink)
	checkClosed(t, h, list(merge), list(left, right), api.OK)
	checkClosed(t, h, list(merge), list(root), api.OK)
	checkClosed(t, h, list(merge), list(merge), api.OK)
	checkClosed(t, h, list(merge, root), list(left, right), api.ErrLink)
	checkClosed(t, h, list(merge, left), list(merge), api.ErrLink)
	checkClosed(t, h, list(merge, left), list(merge, root), api.OK)
	checkClosed(t, h, list(merge, h.tag("v", root)), list(merge), api.ErrLink)
	checkUnchanged(t, h)
}

// P14.1: only commits are cut: links of trees and tags in the cut count.
func TestClosedCutOfOthers(t *testing.T) {
	h := newHistory(t)
	blob := h.blob("x")
	tree := h.tree(blob)
	c := h.commit(1, tree, numbered(1))
	tag := h.tag("v", c)
	for _, cut := range [][]api.Id{{blob}, {tree}, {tag}, {numbered(1)}, {{}}, near(c), {blob, tree, tag, numbered(1)}} {
		checkClosed(t, h, list(c), cut, api.ErrLink)
		checkClosed(t, h, list(tag), cut, api.ErrLink)
		checkClosed(t, h, list(tag), append(list(c), cut...), api.OK)
	}
	for _, id := range list(h.tree(numbered(2)), h.treeOf(api.Tree, blob), h.tag("g", numbered(2)), h.tagOf(api.Tree, "g", blob)) {
		checkClosed(t, h, list(id), list(id), api.ErrLink)
	}
	checkUnchanged(t, h)
}

// P14.1: a long history, with its one fault at the far end.
func TestClosedLong(t *testing.T) {
	const n = 5000
	h := newHistory(t)
	tree := h.tree(h.blob("x"))
	for _, parents := range [][]api.Id{nil, {numbered(1)}, {tree}} {
		row := h.row(n, tree, parents...)
		want := api.OK
		if len(parents) > 0 {
			want = api.ErrLink
		}
		for _, c := range []struct {
			cut  []api.Id
			want api.Errno
		}{{nil, want}, {row[:1], api.OK}, {row[n/2 : n/2+1], api.OK}, {row[n-1:], api.OK}} {
			if e := Closed(h.s, row[n-1:], c.cut); e != c.want {
				t.Errorf("Closed with the parents %x, cut %x: %d", parents, c.cut, e)
			}
		}
	}
}

// P14.1, P0: a nil store has no objects.
func TestClosedNil(t *testing.T) {
	h := newHistory(t)
	c := h.commit(1, h.tree(), numbered(1))
	for _, s := range []*store.Store{nil, store.New()} {
		for _, cut := range [][]api.Id{nil, {}, {c}, {{}}} {
			for _, from := range [][]api.Id{{c}, {{}}, {numbered(1)}, {c, {}}} {
				if e := Closed(s, from, cut); e != api.ErrLink {
					t.Errorf("Closed from %x, cut %x: %d", from, cut, e)
				}
			}
			for _, from := range [][]api.Id{nil, {}} {
				if e := Closed(s, from, cut); e != api.OK {
					t.Errorf("Closed from nothing, cut %x: %d", cut, e)
				}
			}
		}
	}
}
