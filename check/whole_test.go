package check

import (
	"slices"
	"strconv"
	"strings"
	"testing"

	"knapsack/api"
	"knapsack/store"
)

// P14.1: the chapter's examples.
func TestWholeExamples(t *testing.T) {
	h := newHistory(t)
	checkWhole(t, h, nil, nil, api.OK)
	c := h.commit(1, numbered(1))
	checkWhole(t, h, nil, nil, api.ErrLink)
	checkWhole(t, h, []api.Ref{{Name: "b", Id: c}, {Name: "a", Id: c}}, nil, api.ErrRef)
}

// wholeHistory has objects of each kind, and is whole with its shallow commits, which it returns.
func wholeHistory(t *testing.T) (*history, []api.Id) {
	h := newHistory(t)
	tree := h.tree(h.blob("x"), h.tree(h.blob("y")), h.blob(""))
	row := h.row(4, tree, numbered(1), numbered(2))
	alone := h.commit(9, h.tree(), numbered(1))
	h.tag("w", h.tag("v", h.commit(10, tree, row[3], alone)))
	return h, sorted(row[0], alone)
}

// P14.1: whole repositories: refs to objects of each kind, shallow commits with parents there and missing, and objects to which nothing leads.
func TestWholeOK(t *testing.T) {
	h, shallow := wholeHistory(t)
	checkWhole(t, h, nil, shallow, api.OK)
	checkWhole(t, h, refsTo(h.ids...), shallow, api.OK)
	for _, id := range h.ids {
		checkWhole(t, h, refsTo(id), shallow, api.OK)
		checkWhole(t, h, refsTo(id, id, id), shallow, api.OK)
		if h.objects[id].Kind == api.Commit && !slices.Contains(shallow, id) {
			checkWhole(t, h, refsTo(id), sorted(append(slices.Clone(shallow), id)...), api.OK)
		}
	}
	h.blob("alone")
	root := h.commit(50, h.tree())
	checkWhole(t, h, nil, shallow, api.OK)
	checkWhole(t, h, nil, sorted(append(slices.Clone(shallow), root)...), api.OK)
	checkUnchanged(t, h)
}

// P14.1: refs that are not valid, with everything else as it should be.
func TestWholeRefs(t *testing.T) {
	h, shallow := wholeHistory(t)
	id := h.ids[len(h.ids)-1]
	named := func(names ...string) []api.Ref {
		var l []api.Ref
		for _, name := range names {
			l = append(l, api.Ref{Name: name, Id: id})
		}
		return l
	}
	var most []string
	for i := range api.MaxRefs {
		most = append(most, "n"+strconv.Itoa(100+i))
	}
	for _, names := range [][]string{{"a"}, {"!", "~"}, {"a", "aa", "b"}, {strings.Repeat("n", 40)}, most} {
		checkWhole(t, h, named(names...), shallow, api.OK)
	}
	wrong := [][]string{
		{""}, {"", "a"}, {" "}, {"a b"}, {"a\n"}, {"\x00"}, {"\x7f"}, {"\xff"}, {strings.Repeat("n", 41)},
		{"a", "a"}, {"b", "a"}, {"a", "c", "b"}, {"aa", "a"}, {"a", "b", "b"}, {"a", "B"}, append(slices.Clone(most), "o"),
	}
	for _, names := range wrong {
		checkWhole(t, h, named(names...), shallow, api.ErrRef)
	}
	checkWhole(t, h, []api.Ref{{Name: "a"}}, shallow, api.ErrRef)
	checkWhole(t, h, []api.Ref{{Name: "a", Id: id}, {Name: "b"}}, shallow, api.ErrRef)
	checkUnchanged(t, h)
}

// P14.1: refs to objects that are not there, at each place.
func TestWholeRefsMissing(t *testing.T) {
	h, shallow := wholeHistory(t)
	for _, gone := range append(near(h.ids[0]), numbered(1), numbered(9)) {
		checkWhole(t, h, refsTo(gone), shallow, api.ErrLink)
		for i := range h.ids {
			refs := refsTo(h.ids...)
			refs[i].Id = gone
			checkWhole(t, h, refs, shallow, api.ErrLink)
		}
	}
	empty := newHistory(t)
	checkWhole(t, empty, refsTo(h.ids[0]), nil, api.ErrLink)
	checkUnchanged(t, h)
}

// P14.1: shallow commits that are not there, or are no commits, at each place.
func TestWholeShallow(t *testing.T) {
	h, shallow := wholeHistory(t)
	wrong := append(near(shallow[0]), append(near(shallow[1]), numbered(1), numbered(2), api.Id{})...)
	for _, id := range h.ids {
		if h.objects[id].Kind != api.Commit {
			wrong = append(wrong, id)
		}
	}
	for _, id := range wrong {
		for _, l := range [][]api.Id{{id}, append(list(id), shallow...), append(slices.Clone(shallow), id), sorted(append(list(id), shallow...)...)} {
			checkWhole(t, h, nil, l, api.ErrShallow)
			checkWhole(t, h, refsTo(h.ids...), l, api.ErrShallow)
		}
	}
	checkUnchanged(t, h)
}

// P14.1: shallow commits that are not in strictly increasing order.
func TestWholeShallowOrder(t *testing.T) {
	h := newHistory(t)
	var shallow []api.Id
	for i := range 300 {
		shallow = append(shallow, h.commit(uint32(i), h.tree(), numbered(i)))
	}
	shallow = sorted(shallow...)
	checkWhole(t, h, nil, shallow, api.OK)
	for i := range shallow {
		twice := slices.Insert(slices.Clone(shallow), i, shallow[i])
		checkWhole(t, h, nil, twice, api.ErrShallow)
		if i == 0 {
			continue
		}
		swapped := slices.Clone(shallow)
		swapped[i-1], swapped[i] = swapped[i], swapped[i-1]
		checkWhole(t, h, nil, swapped, api.ErrShallow)
		checkWhole(t, h, nil, append(slices.Clone(shallow[i:]), shallow[:i]...), api.ErrShallow)
		checkWhole(t, h, nil, append(slices.Clone(shallow), shallow[i]), api.ErrShallow)
	}
	checkUnchanged(t, h)
}

// P14.1: without one of its shallow commits, a repository lacks parents.
func TestWholeLackingParents(t *testing.T) {
	h, shallow := wholeHistory(t)
	refs := refsTo(h.ids...)
	checkWhole(t, h, refs, shallow, api.OK)
	checkWhole(t, h, refs, nil, api.ErrLink)
	for i := range shallow {
		checkWhole(t, h, refs, shallow[i:i+1], api.ErrLink)
		checkWhole(t, h, nil, shallow[i:i+1], api.ErrLink)
	}
	for _, id := range h.ids { // the children of a commit that lacks parents do not help it
		if h.objects[id].Kind == api.Commit && !slices.Contains(shallow, id) {
			checkWhole(t, h, nil, sorted(id, shallow[0]), api.ErrLink)
		}
	}
	checkUnchanged(t, h)
}

// P14.1: every object counts, whether something leads to it or not, and wherever it stands among the ids.
func TestWholeEveryObject(t *testing.T) {
	for _, o := range wrongObjects(t) {
		h, shallow := wholeHistory(t)
		refs := refsTo(h.ids...)
		checkWhole(t, h, refs, shallow, api.OK)
		id := h.put(o)
		checkWhole(t, h, refs, shallow, api.ErrLink)
		checkWhole(t, h, nil, shallow, api.ErrLink)
		checkWhole(t, h, refsTo(id), shallow, api.ErrLink)
		if o.Kind == api.Commit {
			want := api.OK
			if o.Text == "tree" {
				want = api.ErrLink // in the cut only its parents are disregarded
			}
			checkWhole(t, h, refsTo(id), sorted(append(slices.Clone(shallow), id)...), want)
		}
	}
}

// wrongObjects have one link each that is not sound in wholeHistory; commits tell by their texts which.
func wrongObjects(t *testing.T) []api.Object {
	h, _ := wholeHistory(t)
	first := map[int]api.Id{}
	for _, id := range h.ids {
		if kind := h.objects[id].Kind; first[kind] == (api.Id{}) {
			first[kind] = id
		}
	}
	var l []api.Object
	for kind := 0; kind <= api.Tag; kind++ {
		id := first[kind]
		if kind == 0 {
			id = numbered(9)
		}
		for said := api.Blob; said <= api.Tag; said++ {
			if said == kind {
				continue
			}
			l = append(l, api.Object{Kind: api.Tag, Of: said, Target: id, Name: "v"})
			if said <= api.Tree {
				l = append(l, api.Object{Kind: api.Tree, Entries: []api.Entry{{Name: "a", Kind: api.Blob, Id: first[api.Blob]}, {Name: "b", Kind: said, Id: id}}})
			}
		}
		if kind != api.Tree {
			l = append(l, api.Object{Kind: api.Commit, Tree: id, Text: "tree"})
		}
		if kind != api.Commit {
			l = append(l, api.Object{Kind: api.Commit, Tree: first[api.Tree], Parents: list(first[api.Commit], id), Text: "parent"})
		}
	}
	return l
}

// P14.1: one wrong object among many, so that it is now the first of the ids, now the last.
func TestWholeAnyPlace(t *testing.T) {
	for i := range 200 {
		h := newHistory(t)
		for j := range 4 {
			h.blob(strconv.Itoa(j))
		}
		checkWhole(t, h, nil, nil, api.OK)
		h.tree(numbered(i))
		checkWhole(t, h, nil, nil, api.ErrLink)
	}
}

// P14.1: of several errors the first one of the list is returned.
func TestWholeFirstError(t *testing.T) {
	sound, shallow := wholeHistory(t)
	faulty, _ := wholeHistory(t)
	faulty.tree(numbered(9))
	tip := sound.ids[len(sound.ids)-1]
	fineRefs, goneRefs, wrongRefs := refsTo(tip), refsTo(tip, numbered(9)), []api.Ref{{Name: "b", Id: tip}, {Name: "a", Id: numbered(9)}}
	wrongShallow := [][]api.Id{{shallow[1], shallow[0]}, {shallow[0], shallow[0]}, {numbered(9)}, {tip}}
	for _, h := range []*history{sound, faulty} {
		want := api.OK
		if h == faulty {
			want = api.ErrLink
		}
		checkWhole(t, h, fineRefs, shallow, want)
		checkWhole(t, h, goneRefs, shallow, api.ErrLink)
		checkWhole(t, h, wrongRefs, shallow, api.ErrRef)
		for _, l := range wrongShallow {
			checkWhole(t, h, fineRefs, l, api.ErrShallow)
			checkWhole(t, h, goneRefs, l, api.ErrShallow)
			checkWhole(t, h, wrongRefs, l, api.ErrRef)
		}
		checkUnchanged(t, h)
	}
}

// P14.1, P0: a repository may be any value: without a store there are no objects.
func TestWholeNil(t *testing.T) {
	h, shallow := wholeHistory(t)
	for _, s := range []*store.Store{nil, store.New()} {
		for _, c := range []struct {
			refs    []api.Ref
			shallow []api.Id
			want    api.Errno
		}{
			{nil, nil, api.OK},
			{[]api.Ref{}, []api.Id{}, api.OK},
			{refsTo(h.ids[0]), nil, api.ErrLink},
			{nil, shallow, api.ErrShallow},
			{refsTo(h.ids[0]), shallow, api.ErrShallow},
			{nil, list(api.Id{}), api.ErrShallow},
			{[]api.Ref{{}}, nil, api.ErrRef},
			{[]api.Ref{{}, {Name: "\xff"}}, list(api.Id{}, api.Id{}), api.ErrRef},
		} {
			if e := Whole(store.Repo{S: s, Refs: c.refs, Shallow: c.shallow}); e != c.want {
				t.Errorf("Whole of refs %x, shallow %x: %d, not %d", c.refs, c.shallow, e, c.want)
			}
		}
	}
	if e := Whole(store.Repo{}); e != api.OK {
		t.Errorf("Whole of nothing: %d", e)
	}
}

// P14.1: a long history with many shallow commits.
func TestWholeLong(t *testing.T) {
	const n = 5000
	h := newHistory(t)
	tree := h.tree(h.blob("x"))
	row := h.row(n, tree, numbered(1))
	refs := refsTo(row[n-1])
	whole := func(shallow []api.Id, want api.Errno) {
		t.Helper()
		if e := Whole(store.Repo{S: h.s, Refs: refs, Shallow: shallow}); e != want {
			t.Errorf("Whole of %d shallow commits: %d, not %d", len(shallow), e, want)
		}
	}
	whole(nil, api.ErrLink)
	whole(row[:1], api.OK)
	whole(row[1:2], api.ErrLink)
	whole(sorted(row...), api.OK)
	whole(sorted(row[1:]...), api.ErrLink)
}
