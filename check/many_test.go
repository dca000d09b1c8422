package check

import (
	"slices"
	"testing"

	"knapsack/api"
	"knapsack/store"
)

// manyRefs are refs to up to 4 of the objects, now and then to one that is missing, or not valid.
func (g *grower) manyRefs() []api.Ref {
	refs := refsTo(g.some(4, g.ids)...)
	switch {
	case len(refs) == 0 || g.below(4) > 0:
	case g.below(3) > 0:
		refs[g.below(len(refs))].Id = numbered(g.below(5))
	default:
		refs[g.below(len(refs))].Name = "r"
		refs = append(refs, refs[0])
	}
	return refs
}

// manyShallow are the commits that lack parents, and some others, sometimes one too few, or one too many, or in another order.
func (g *grower) manyShallow() []api.Id {
	l := g.lacks()
	for _, id := range g.some(3, g.ids) {
		if g.objects[id].Kind == api.Commit {
			l = append(l, id)
		}
	}
	l = slices.Compact(sorted(l...))
	switch {
	case len(l) < 2 || g.below(2) > 0:
	case g.below(3) > 0:
		i := g.below(len(l))
		l = slices.Delete(l, i, i+1)
	case g.below(2) > 0:
		l[0], l[1] = l[1], l[0]
	default:
		l = append(l, g.ids[g.below(len(g.ids))])
	}
	return l
}

// P14.1: many histories, against the second reading.
func TestMany(t *testing.T) {
	closed, whole := map[api.Errno]int{}, map[api.Errno]int{}
	for seed := range uint64(120) {
		g := newGrower(t, 10+int(seed)/2, 100+seed, []int{0, 50, 200}[seed%3], []int{0, 8, 25, 60}[seed%4])
		for range 12 {
			from, cut := g.some(4, g.ids), append(g.some(20, g.ids), g.some(9, append(g.lacks(), numbered(1)))...)
			if g.below(12) == 0 {
				from = append(from, numbered(g.below(5)))
			}
			want := g.toldClosed(from, cut)
			checkClosed(t, g.history, from, cut, want)
			closed[want]++
			refs, shallow := g.manyRefs(), g.manyShallow()
			want = g.toldWhole(refs, shallow)
			checkWhole(t, g.history, refs, shallow, want)
			whole[want]++
		}
		checkUnchanged(t, g.history)
	}
	for _, n := range []int{closed[api.OK], closed[api.ErrLink], whole[api.OK], whole[api.ErrRef], whole[api.ErrShallow], whole[api.ErrLink]} {
		if n < 50 {
			t.Errorf("too few of one sort: %v, %v", closed, whole)
		}
	}
}

// P14.2: all objects of a whole repository are closed, with its shallow commits as the cut.
func TestWholeIsClosed(t *testing.T) {
	whole := 0
	for seed := range uint64(150) {
		g := newGrower(t, 40, 3000+seed, []int{0, 300}[seed%2], []int{0, 15}[seed/2%2])
		r := store.Repo{S: g.s, Refs: refsTo(g.some(4, g.ids)...), Shallow: g.lacks()}
		if Whole(r) != api.OK {
			continue
		}
		whole++
		checkClosed(t, g.history, g.ids, r.Shallow, api.OK)
		for _, id := range g.ids {
			if e := Closed(g.s, list(id), r.Shallow); e != api.OK {
				t.Errorf("Closed of %x in a whole repository: %d", id, e)
			}
		}
	}
	if whole < 70 {
		t.Errorf("only %d are whole", whole)
	}
}

// P14.2: closed ids remain closed when objects are added, or the cut grows.
func TestRemainClosed(t *testing.T) {
	closed := 0
	for seed := range uint64(60) {
		g := newGrower(t, 40, 5000+seed, 60, 15)
		more := g.copy()
		added := &grower{history: more, draws: &draws{x: seed}, faults: 5, lacking: 3}
		for i := range 30 {
			added.grow(1000 + i)
		}
		for range 20 {
			from, cut := g.some(3, g.ids), append(g.some(10, g.ids), g.some(9, append(g.lacks(), numbered(1)))...)
			if len(from) == 0 || Closed(g.s, from, cut) != api.OK {
				continue
			}
			closed++
			larger := append(slices.Clone(cut), added.some(20, more.ids)...)
			checkClosed(t, g.history, from, larger, api.OK)
			checkClosed(t, more, from, cut, api.OK)
			checkClosed(t, more, from, larger, api.OK)
		}
	}
	if closed < 200 {
		t.Errorf("only %d are closed", closed)
	}
}

// P14.2: a whole repository remains whole when objects are added that are closed with its shallow commits as the cut, and only then.
func TestRemainWhole(t *testing.T) {
	counts := map[api.Errno]int{}
	for seed := range uint64(200) {
		g := newGrower(t, 30, 8000+seed, 0, 15)
		refs, shallow := refsTo(g.some(4, g.ids)...), g.lacks()
		checkWhole(t, g.history, refs, shallow, api.OK)
		more := g.copy()
		added := &grower{history: more, draws: &draws{x: seed}, faults: 40, lacking: 40}
		var ids []api.Id
		for i := range 12 {
			ids = append(ids, added.grow(1000+i))
		}
		e := Closed(more.s, ids, shallow)
		counts[e]++
		checkWhole(t, more, refs, shallow, e)
	}
	if counts[api.OK] < 40 || counts[api.ErrLink] < 40 {
		t.Errorf("too few of one sort: %v", counts)
	}
}

// P0: the same arguments lead to the same results, in whichever order the objects were put.
func TestSameAgain(t *testing.T) {
	for seed := range uint64(20) {
		g := newGrower(t, 60, 9000+seed, 60, 20)
		again := newHistory(t)
		for i := range g.ids {
			again.put(g.objects[g.ids[len(g.ids)-1-i]])
		}
		for range 10 {
			from, cut, refs, shallow := g.some(5, g.ids), g.some(40, g.ids), g.manyRefs(), g.manyShallow()
			for range 2 {
				checkClosed(t, g.history, from, cut, g.toldClosed(from, cut))
				checkClosed(t, again, from, cut, g.toldClosed(from, cut))
				checkWhole(t, g.history, refs, shallow, g.toldWhole(refs, shallow))
				checkWhole(t, again, refs, shallow, g.toldWhole(refs, shallow))
			}
		}
	}
}
