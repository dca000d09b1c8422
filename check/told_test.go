package check

import (
	"bytes"
	"crypto/sha256"
	"slices"
	"strconv"
	"testing"

	"knapsack/api"
	"knapsack/object"
	"knapsack/store"
)

// This file is the chapter a second time, worked out without the package's own code and without the store and the graph, and the histories on which the tests try both.

// history is a store, and all that was put into it.
type history struct {
	t         *testing.T
	s         *store.Store
	objects   map[api.Id]api.Object
	encodings map[api.Id]string
	ids       []api.Id // in the order of the Puts
}

func newHistory(t *testing.T) *history {
	return &history{t: t, s: store.New(), objects: map[api.Id]api.Object{}, encodings: map[api.Id]string{}}
}

func (h *history) put(o api.Object) api.Id {
	h.t.Helper()
	encoding, e := object.Encode(o)
	if e != api.OK {
		h.t.Fatalf("Encode of %v: %d", o, e)
	}
	if _, e := h.s.Put(encoding); e != api.OK {
		h.t.Fatalf("Put of %q: %d", encoding, e)
	}
	id := api.Id(sha256.Sum256([]byte(encoding)))
	if _, is := h.objects[id]; !is {
		h.ids = append(h.ids, id)
	}
	h.objects[id], h.encodings[id] = o, encoding
	return id
}

func (h *history) blob(data string) api.Id {
	h.t.Helper()
	return h.put(api.Object{Kind: api.Blob, Data: data})
}

// tree has these as its entries, each with the kind that it has, a blob if it has none of the two that may be.
func (h *history) tree(ids ...api.Id) api.Id {
	h.t.Helper()
	o := api.Object{Kind: api.Tree}
	for i, id := range ids {
		kind := api.Blob
		if h.objects[id].Kind == api.Tree {
			kind = api.Tree
		}
		o.Entries = append(o.Entries, api.Entry{Name: "n" + strconv.Itoa(100+i), Kind: kind, Id: id})
	}
	return h.put(o)
}

// treeOf has one entry, with that kind.
func (h *history) treeOf(kind int, id api.Id) api.Id {
	h.t.Helper()
	return h.put(api.Object{Kind: api.Tree, Entries: []api.Entry{{Name: "n", Kind: kind, Id: id}}})
}

func (h *history) commit(time uint32, tree api.Id, parents ...api.Id) api.Id {
	h.t.Helper()
	return h.put(api.Object{Kind: api.Commit, Tree: tree, Time: time, Parents: parents})
}

// tag says of its target the kind that it has, or a commit.
func (h *history) tag(name string, target api.Id) api.Id {
	h.t.Helper()
	of := h.objects[target].Kind
	if of == 0 {
		of = api.Commit
	}
	return h.tagOf(of, name, target)
}

func (h *history) tagOf(of int, name string, target api.Id) api.Id {
	h.t.Helper()
	return h.put(api.Object{Kind: api.Tag, Of: of, Target: target, Name: name})
}

// row are n commits, each the parent of the next one, the oldest first; the oldest has those parents.
func (h *history) row(n int, tree api.Id, parents ...api.Id) []api.Id {
	h.t.Helper()
	var l []api.Id
	for i := range n {
		l = append(l, h.commit(uint32(i), tree, parents...))
		parents = l[i:]
	}
	return l
}

// copy is another history with the same objects.
func (h *history) copy() *history {
	h.t.Helper()
	other := newHistory(h.t)
	for _, id := range h.ids {
		other.put(h.objects[id])
	}
	return other
}

// numbered is an id that nothing has.
func numbered(n int) api.Id {
	return api.Id{0: byte(n), 1: 7, 30: byte(n >> 8), 31: byte(255 - n)}
}

// near are ids that nothing has, each next to this one.
func near(id api.Id) []api.Id {
	var l []api.Id
	for i := range id {
		for _, bit := range []byte{1, 128} {
			other := id
			other[i] ^= bit
			l = append(l, other)
		}
	}
	return l
}

func sorted(ids ...api.Id) []api.Id {
	l := slices.Clone(ids)
	slices.SortFunc(l, func(a, b api.Id) int { return bytes.Compare(a[:], b[:]) })
	return l
}

// toldLinks are what an object refers to with a cut.
func (h *history) toldLinks(id api.Id, cut []api.Id) []api.Link {
	o := h.objects[id]
	var l []api.Link
	switch o.Kind {
	case api.Tree:
		for _, e := range o.Entries {
			l = append(l, api.Link{Id: e.Id, Kind: e.Kind})
		}
	case api.Commit:
		l = append(l, api.Link{Id: o.Tree, Kind: api.Tree})
		for _, p := range o.Parents {
			if !slices.Contains(cut, id) {
				l = append(l, api.Link{Id: p, Kind: api.Commit})
			}
		}
	case api.Tag:
		l = append(l, api.Link{Id: o.Target, Kind: o.Of})
	}
	return l
}

func (h *history) toldSound(id api.Id, cut []api.Id) bool {
	for _, link := range h.toldLinks(id, cut) {
		if o, is := h.objects[link.Id]; !is || o.Kind != link.Kind {
			return false
		}
	}
	return true
}

// toldClosed follows every link once, and looks at what it leads to.
func (h *history) toldClosed(from, cut []api.Id) api.Errno {
	seen := map[api.Id]bool{}
	var closed func(id api.Id) bool
	closed = func(id api.Id) bool {
		if seen[id] {
			return true
		}
		seen[id] = true
		if _, is := h.objects[id]; !is || !h.toldSound(id, cut) {
			return false
		}
		for _, link := range h.toldLinks(id, cut) {
			if !closed(link.Id) {
				return false
			}
		}
		return true
	}
	for _, id := range from {
		if !closed(id) {
			return api.ErrLink
		}
	}
	return api.OK
}

// toldWhole asks for the four errors one after the other.
func (h *history) toldWhole(refs []api.Ref, shallow []api.Id) api.Errno {
	last := ""
	for _, r := range refs {
		if r.Name <= last || len(r.Name) > 40 || r.Id == (api.Id{}) || len(refs) > 64 {
			return api.ErrRef
		}
		for _, b := range []byte(r.Name) {
			if b <= ' ' || b > '~' {
				return api.ErrRef
			}
		}
		last = r.Name
	}
	if !slices.Equal(shallow, slices.Compact(sorted(shallow...))) {
		return api.ErrShallow
	}
	for _, id := range shallow {
		if h.objects[id].Kind != api.Commit {
			return api.ErrShallow
		}
	}
	for _, id := range h.ids {
		if !h.toldSound(id, shallow) {
			return api.ErrLink
		}
	}
	for _, r := range refs {
		if _, is := h.objects[r.Id]; !is {
			return api.ErrLink
		}
	}
	return api.OK
}

// draws are numbers that are always the same ones for a seed.
type draws struct {
	x uint64
}

func (d *draws) below(n int) int {
	d.x = d.x*6364136223846793005 + 1442695040888963407
	return int(d.x>>33) % n
}

// some are up to n of these, one of them perhaps several times.
func (d *draws) some(n int, ids []api.Id) []api.Id {
	var l []api.Id
	for range d.below(n + 1) {
		l = append(l, ids[d.below(len(ids))])
	}
	return l
}

// grower adds objects to a history, always the same ones for a seed. They lead to what is there and of the right kind, but for one link of so many; of parents there are more that are missing.
type grower struct {
	*history
	*draws
	faults  int // one link of so many is wrong; 0 for none
	lacking int // one parent of so many is missing; 0 for none
}

// one is an id of an object of that kind, mostly a late one, or a wrong one.
func (g *grower) one(kind int) api.Id {
	if g.faults > 0 && g.below(g.faults) == 0 {
		if g.below(2) == 0 {
			return numbered(g.below(5))
		}
		return g.ids[g.below(len(g.ids))]
	}
	var l []api.Id
	for _, id := range g.ids {
		if g.objects[id].Kind == kind {
			l = append(l, id)
		}
	}
	if len(l) == 0 {
		return g.blob("")
	}
	return l[len(l)-1-g.below(min(len(l), 6))]
}

func (g *grower) entry(name string, kind int) api.Entry {
	return api.Entry{Name: name, Kind: kind, Id: g.one(kind)}
}

func (g *grower) parents() []api.Id {
	var l []api.Id
	for range g.below(4) {
		if g.lacking > 0 && g.below(g.lacking) == 0 {
			l = append(l, numbered(g.below(5)))
		} else {
			l = append(l, g.one(api.Commit))
		}
	}
	return l
}

// grow adds the object of that number.
func (g *grower) grow(i int) api.Id {
	switch g.below(8) {
	case 0:
		return g.blob(strconv.Itoa(i))
	case 1:
		return g.put(api.Object{Kind: api.Tree, Entries: []api.Entry{g.entry("a", api.Blob), g.entry("b", api.Tree), g.entry("c", api.Blob)}})
	case 2:
		of := 1 + g.below(4)
		return g.tagOf(of, "v"+strconv.Itoa(i), g.one(of))
	}
	return g.commit(uint32(i), g.one(api.Tree), g.parents()...)
}

// newGrower is a history of some n objects; the first ones are of all kinds, and sound.
func newGrower(t *testing.T, n int, seed uint64, faults, lacking int) *grower {
	g := &grower{history: newHistory(t), draws: &draws{x: seed}, faults: faults, lacking: lacking}
	blob := g.blob("x")
	tree := g.tree(blob)
	g.tag("first", g.commit(0, g.tree(tree, blob)))
	for i := range n {
		g.grow(i + 1)
	}
	return g
}

// lacks are the commits whose parents are not all commits that are there.
func (h *history) lacks() []api.Id {
	var l []api.Id
	for _, id := range h.ids {
		isCommit := func(p api.Id) bool { return h.objects[p].Kind == api.Commit }
		for _, p := range h.objects[id].Parents {
			if !isCommit(p) && !slices.Contains(l, id) {
				l = append(l, id)
			}
		}
	}
	return sorted(l...)
}
