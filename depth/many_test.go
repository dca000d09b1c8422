package depth

import (
	"slices"
	"testing"

	"knapsack/api"
	"knapsack/graph"
	"knapsack/store"
)

// P13.1: many histories, against the second reading.
func TestMany(t *testing.T) {
	deepest, shallows := 0, 0
	for seed := range uint64(60) {
		h, d := manyObjects(t, 120, 900+seed), &draws{x: 50 + seed}
		for range 8 {
			from := d.some(4, h.ids)
			for _, most := range []int{1, 2, 3, 4, 6, 9, 14, api.AllDepth} {
				want := h.toldOf(from, most)
				shallow, deep := h.toldBound(from, most)
				checkOf(t, h, from, most, want)
				checkBound(t, h, from, most, shallow, deep)
				for _, c := range want {
					deepest = max(deepest, c.N)
				}
				shallows += len(shallow)
			}
		}
		if h.changed() {
			t.Fatal("a call changed the store")
		}
	}
	if deepest < 10 || shallows < 1000 {
		t.Errorf("only a depth of %d, and %d shallow commits", deepest, shallows)
	}
}

// manyWhole is a history of commits whose trees lead to no commits, and whose parents are commits or missing.
func manyWhole(t *testing.T, n int, seed uint64) *history {
	h, d := newHistory(t), &draws{x: seed}
	tree := h.tree(h.blob("x"))
	var commits []api.Id
	for i := range n {
		var parents []api.Id
		for range d.below(4) {
			if len(commits) == 0 || d.below(30) == 0 {
				parents = append(parents, numbered(d.below(5)))
			} else {
				parents = append(parents, commits[len(commits)-1-d.below(min(len(commits), 8))])
			}
		}
		commits = append(commits, h.commit(uint32(i), tree, parents...))
		if d.below(6) == 0 {
			h.chain(1+d.below(3), commits[d.below(len(commits))])
		}
	}
	return h
}

func commitsOf(s *store.Store, ids []api.Id) []api.Id {
	return slices.DeleteFunc(slices.Clone(ids), func(id api.Id) bool { return s.Kind(id) != api.Commit })
}

// P13.2: the depth of a parent is at most one greater than that of its child; with the shallow commits as the cut, what is reached is of at most that depth.
func TestConsequences(t *testing.T) {
	cuts := 0
	for seed := range uint64(60) {
		h, d := manyWhole(t, 60, 70+seed), &draws{x: seed}
		from := append(d.some(3, h.ids), h.ids[len(h.ids)-1])
		all, e := Of(h.s, from, api.AllDepth)
		if e != api.OK {
			t.Fatalf("Of: %d", e)
		}
		checkParents(t, h, all)
		for n := 1; n < 14; n++ {
			l, e := Of(h.s, from, n)
			shallow, deep, e2 := Bound(h.s, from, n)
			if e != api.OK || e2 != api.OK {
				t.Fatalf("Of and Bound(%d): %d, %d", n, e, e2)
			}
			var near []api.Id
			for _, c := range l {
				near = append(near, c.Id)
			}
			there, _ := graph.Reach(h.s, from, shallow)
			if !slices.Equal(commitsOf(h.s, there), near) {
				t.Fatalf("Of(%d): %x, but %x are reached", n, near, there)
			}
			if walked := sorted(graph.Walk(h.s, from, shallow)...); !slices.Equal(walked, near) {
				t.Fatalf("Of(%d): %x, but %x are walked", n, near, walked)
			}
			cuts += len(shallow)
			checkApart(t, shallow, deep, near)
		}
	}
	if cuts < 500 {
		t.Errorf("only %d cuts", cuts)
	}
}

func checkParents(t *testing.T, h *history, all []Depth) {
	t.Helper()
	depthOf := map[api.Id]int{}
	for _, c := range all {
		depthOf[c.Id] = c.N
	}
	for _, c := range all {
		for _, p := range h.objects[c.Id].Parents {
			n, is := depthOf[p]
			if _, there := h.objects[p]; is != there || n > c.N+1 {
				t.Fatalf("%x has depth %d, its parent %x %d, %v", c.Id, c.N, p, n, is)
			}
		}
	}
}

// checkApart looks for commits that are both shallow and deep, or too far away for either.
func checkApart(t *testing.T, shallow, deep, near []api.Id) {
	t.Helper()
	for _, id := range slices.Concat(shallow, deep) {
		if slices.Contains(shallow, id) == slices.Contains(deep, id) || !slices.Contains(near, id) {
			t.Errorf("%x is shallow and deep, or too far away", id)
		}
	}
}

// P13.1: deepening step by step ends with the shallow commits of the last step.
func TestDeepening(t *testing.T) {
	for seed := range uint64(30) {
		h := manyWhole(t, 60, 400+seed)
		from := list(h.ids[len(h.ids)-1])
		var next []api.Id
		for n := 1; n < 12; n++ {
			shallow, deep, _ := Bound(h.s, from, n)
			next = Next(next, shallow, deep)
			if !slices.Equal(next, shallow) {
				t.Fatalf("depth %d: %x, not %x", n, next, shallow)
			}
		}
		shallow, deep, _ := Bound(h.s, from, api.AllDepth)
		if next = Next(next, shallow, deep); len(next) != 0 {
			t.Fatalf("all of it, but shallow are %x", next)
		}
	}
}

// P0: the same arguments lead to the same results, in whichever order the objects were put.
func TestSameAgain(t *testing.T) {
	h := manyObjects(t, 150, 5)
	again := newHistory(t)
	for i := range h.ids {
		again.put(h.objects[h.ids[len(h.ids)-1-i]])
	}
	d := &draws{x: 8}
	for range 50 {
		from, n := d.some(5, h.ids), 1+d.below(9)
		want := h.toldOf(from, n)
		shallow, deep := h.toldBound(from, n)
		for range 3 {
			checkOf(t, h, from, n, want)
			checkOf(t, again, from, n, want)
			checkBound(t, h, from, n, shallow, deep)
			checkBound(t, again, from, n, shallow, deep)
		}
	}
}
