package depth

import (
	"bytes"
	"crypto/sha256"
	"slices"
	"strconv"
	"testing"

	"knapsack/api"
	"knapsack/object"
	"knapsack/store"
)

// This file is the chapter a second time, worked out without the package's own code and without the store, and the histories on which the tests try both.

// history is a store, and all that was put into it.
type history struct {
	t         *testing.T
	s         *store.Store
	objects   map[api.Id]api.Object
	encodings map[api.Id]string
	ids       []api.Id // in the order of the Puts
}

func newHistory(t *testing.T) *history {
	return &history{t: t, s: store.New(), objects: map[api.Id]api.Object{}, encodings: map[api.Id]string{}}
}

func (h *history) put(o api.Object) api.Id {
	h.t.Helper()
	encoding, e := object.Encode(o)
	if e != api.OK {
		h.t.Fatalf("Encode of %v: %d", o, e)
	}
	if _, e := h.s.Put(encoding); e != api.OK {
		h.t.Fatalf("Put of %q: %d", encoding, e)
	}
	id := api.Id(sha256.Sum256([]byte(encoding)))
	if _, is := h.objects[id]; !is {
		h.ids = append(h.ids, id)
	}
	h.objects[id], h.encodings[id] = o, encoding
	return id
}

func (h *history) blob(data string) api.Id {
	h.t.Helper()
	return h.put(api.Object{Kind: api.Blob, Data: data})
}

// tree has these as its entries, each with the kind that it has, a blob if it has none of the two that may be.
func (h *history) tree(ids ...api.Id) api.Id {
	h.t.Helper()
	o := api.Object{Kind: api.Tree}
	for i, id := range ids {
		kind := api.Blob
		if h.objects[id].Kind == api.Tree {
			kind = api.Tree
		}
		o.Entries = append(o.Entries, api.Entry{Name: "n" + strconv.Itoa(100+i), Kind: kind, Id: id})
	}
	return h.put(o)
}

func (h *history) commit(time uint32, tree api.Id, parents ...api.Id) api.Id {
	h.t.Helper()
	return h.put(api.Object{Kind: api.Commit, Tree: tree, Time: time, Parents: parents})
}

// other is a commit that differs from those of the same time, tree and parents by its text.
func (h *history) other(text string, time uint32, tree api.Id, parents ...api.Id) api.Id {
	h.t.Helper()
	return h.put(api.Object{Kind: api.Commit, Tree: tree, Time: time, Parents: parents, Text: text})
}

// tag says of its target the kind that it has, or a commit.
func (h *history) tag(name string, target api.Id) api.Id {
	h.t.Helper()
	of := h.objects[target].Kind
	if of == 0 {
		of = api.Commit
	}
	return h.put(api.Object{Kind: api.Tag, Of: of, Target: target, Name: name})
}

// chain is the last of n tags, the first of which has that target.
func (h *history) chain(n int, target api.Id) api.Id {
	h.t.Helper()
	for i := range n {
		target = h.tag("v"+strconv.Itoa(i), target)
	}
	return target
}

// numbered is an id that nothing has.
func numbered(n int) api.Id {
	return api.Id{0: byte(n), 1: 7, 30: byte(n >> 8), 31: byte(255 - n)}
}

func sorted(ids ...api.Id) []api.Id {
	l := slices.Clone(ids)
	slices.SortFunc(l, func(a, b api.Id) int { return bytes.Compare(a[:], b[:]) })
	return l
}

func (h *history) toldEnd(id api.Id) (api.Id, bool) {
	o, is := h.objects[id]
	if !is {
		return api.Id{}, false
	}
	if o.Kind == api.Tag {
		return h.toldEnd(o.Target)
	}
	return id, true
}

// toldDepths lowers the depths of all commits, each by all of its children, until nothing changes.
func (h *history) toldDepths(from []api.Id) map[api.Id]int {
	depths := map[api.Id]int{}
	lower := func(id api.Id, n int) bool {
		old, is := depths[id]
		if h.objects[id].Kind != api.Commit || is && old <= n {
			return false
		}
		depths[id] = n
		return true
	}
	for _, id := range from {
		if end, is := h.toldEnd(id); is {
			lower(end, 1)
		}
	}
	for changed := true; changed; {
		changed = false
		for _, id := range h.ids {
			n, is := depths[id]
			if !is {
				continue
			}
			for _, p := range h.objects[id].Parents {
				changed = lower(p, n+1) || changed
			}
		}
	}
	return depths
}

func (h *history) toldOf(from []api.Id, most int) []Depth {
	var l []Depth
	depths := h.toldDepths(from)
	for _, id := range sorted(h.ids...) {
		if n, is := depths[id]; is && n <= most {
			l = append(l, Depth{Id: id, N: n})
		}
	}
	return l
}

func (h *history) toldBound(from []api.Id, n int) (shallow, deep []api.Id) {
	for id, m := range h.toldDepths(from) {
		if m < n {
			deep = append(deep, id)
		}
		if m == n && len(h.objects[id].Parents) > 0 {
			shallow = append(shallow, id)
		}
	}
	return sorted(shallow...), sorted(deep...)
}

// toldNext looks at each id that one of the lists has.
func toldNext(old, shallow, deep []api.Id) []api.Id {
	set := map[api.Id]bool{}
	for _, id := range slices.Concat(old, shallow, deep) {
		set[id] = slices.Contains(shallow, id) || slices.Contains(old, id) && !slices.Contains(deep, id)
	}
	var next []api.Id
	for id, is := range set {
		if is {
			next = append(next, id)
		}
	}
	return sorted(next...)
}

// draws are numbers that are always the same ones for a seed.
type draws struct {
	x uint64
}

func (d *draws) below(n int) int {
	d.x = d.x*6364136223846793005 + 1442695040888963407
	return int(d.x>>33) % n
}

// some are up to n of these, one of them perhaps several times, and now and then ids that nothing has.
func (d *draws) some(n int, ids []api.Id) []api.Id {
	var l []api.Id
	for range d.below(n + 1) {
		if d.below(10) == 0 {
			l = append(l, numbered(d.below(5)))
		} else {
			l = append(l, ids[d.below(len(ids))])
		}
	}
	return l
}

// manyObjects is a history of n Puts, always the same one for a seed. It leads mostly to what is there and of the right kind, sometimes to another kind or to nothing; many commits have several children and parents.
func manyObjects(t *testing.T, n int, seed uint64) *history {
	h, d := newHistory(t), &draws{x: seed}
	ofKind := map[int][]api.Id{}
	one := func(kind int) api.Id {
		switch l := ofKind[kind]; {
		case d.below(20) == 0 || len(h.ids) == 0:
			return numbered(d.below(5))
		case d.below(15) == 0 || len(l) == 0:
			return h.ids[d.below(len(h.ids))]
		default:
			return l[len(l)-1-d.below(min(len(l), 6))]
		}
	}
	keep := func(kind int, id api.Id) { ofKind[kind] = append(ofKind[kind], id) }
	for i := range n {
		switch d.below(8) {
		case 0:
			keep(api.Blob, h.blob(strconv.Itoa(i)))
		case 1:
			keep(api.Tree, h.tree(one(api.Blob), one(api.Tree), one(api.Blob)))
		case 2:
			keep(api.Tag, h.tag("v"+strconv.Itoa(i), one(1+d.below(4))))
		default:
			var parents []api.Id
			for range d.below(4) {
				parents = append(parents, one(api.Commit))
			}
			keep(api.Commit, h.commit(uint32(i), one(api.Tree), parents...))
		}
	}
	return h
}
