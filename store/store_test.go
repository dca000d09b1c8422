package store

import (
	"encoding/hex"
	"math"
	"reflect"
	"slices"
	"testing"

	"knapsack/api"
	"knapsack/object"
)

// filled is a store with these put one behind the other.
func filled(t *testing.T, encodings ...string) *Store {
	t.Helper()
	s := New()
	for _, x := range encodings {
		checkPut(t, s, x, toldId(x), api.OK)
	}
	return s
}

func told(encodings ...string) *toldStore {
	return &toldStore{put: encodings}
}

func checkPut(t *testing.T, s *Store, encoding string, id api.Id, e api.Errno) {
	t.Helper()
	if gid, ge := s.Put(encoding); gid != id || ge != e {
		t.Fatalf("Put of %d bytes %.60q: %x, %d, not %x, %d", len(encoding), encoding, gid, ge, id, e)
	}
}

// checkThere asks for one id in all ways.
func checkThere(t *testing.T, s *Store, id api.Id, encoding string) {
	t.Helper()
	if x, is := s.Get(id); x != encoding || !is {
		t.Errorf("Get of %x: %.60q, %v, not %.60q", id, x, is, encoding)
	}
	want, _ := object.Decode(encoding)
	if o, is := s.Object(id); !sameObject(o, want) || !is {
		t.Errorf("Object of %x: %#v, %v, not %#v", id, o, is, want)
	}
	if k := s.Kind(id); k != want.Kind {
		t.Errorf("Kind of %x: %d, not %d", id, k, want.Kind)
	}
}

func checkNotThere(t *testing.T, s *Store, id api.Id) {
	t.Helper()
	if x, is := s.Get(id); x != "" || is {
		t.Errorf("Get of %x: %.60q, %v", id, x, is)
	}
	if o, is := s.Object(id); !reflect.ValueOf(o).IsZero() || is {
		t.Errorf("Object of %x: %#v, %v", id, o, is)
	}
	if k := s.Kind(id); k != 0 {
		t.Errorf("Kind of %x: %d", id, k)
	}
}

// sameObject holds two objects against each other, a nil slice being an empty one.
func sameObject(a, b api.Object) bool {
	if !slices.Equal(a.Entries, b.Entries) || !slices.Equal(a.Parents, b.Parents) {
		return false
	}
	a.Entries, a.Parents, b.Entries, b.Parents = nil, nil, nil, nil
	return reflect.DeepEqual(a, b)
}

// checkStore holds all of a store against the second reading, with ids next to those that are there, and others.
func checkStore(t *testing.T, s *Store, want *toldStore) {
	t.Helper()
	ids := want.Ids()
	if s.Len() != len(ids) || !slices.Equal(s.Ids(), ids) {
		t.Fatalf("Len %d, Ids %x, not %x", s.Len(), s.Ids(), ids)
	}
	for _, id := range append(ids, otherIds(ids)...) {
		if x, is := want.Get(id); is {
			checkThere(t, s, id, x)
		} else {
			checkNotThere(t, s, id)
		}
	}
}

// otherIds are next to these by their first, a middle or their last byte, or at either end of all ids.
func otherIds(ids []api.Id) []api.Id {
	l := []api.Id{{}, {0: 1}, {31: 1}, {0: 255}, toldId(""), toldId("x")}
	top := api.Id{}
	for i := range top {
		top[i] = 255
	}
	l = append(l, top)
	for _, id := range ids {
		for _, i := range []int{0, 15, 31} {
			down, up := id, id
			down[i]--
			up[i]++
			l = append(l, down, up)
		}
	}
	return l
}

// P11.1: a new store has no objects, and each one is another.
func TestNew(t *testing.T) {
	s := New()
	if s == nil {
		t.Fatal("New: nil")
	}
	checkStore(t, s, told())
	for _, x := range history() {
		checkNotThere(t, s, toldId(x))
	}
	other := New()
	checkPut(t, other, blob("hi"), toldId(blob("hi")), api.OK)
	checkStore(t, s, told())
	checkStore(t, New(), told())
}

// P11.1: the chapter's examples, with the id written out.
func TestExamples(t *testing.T) {
	b, err := hex.DecodeString("ba5167aa256949f7013fd0aee3dbf639bdb0cad8daf75089d126f8da928c143f")
	if err != nil {
		t.Fatal(err)
	}
	s := New()
	id := api.Id(b)
	checkPut(t, s, "\x01\x02hi", id, api.OK)
	if k := s.Kind(id); k != api.Blob {
		t.Errorf("Kind: %d", k)
	}
	if x, is := s.Get(id); x != "\x01\x02hi" || !is {
		t.Errorf("Get: %q, %v", x, is)
	}
	if o, is := s.Object(id); !is || !sameObject(o, api.Object{Kind: api.Blob, Data: "hi"}) {
		t.Errorf("Object: %#v, %v", o, is)
	}
	checkPut(t, s, "x", api.Id{}, api.ErrForm)
	checkStore(t, s, told("\x01\x02hi"))
}

// P11.1: encodings of all kinds put one behind the other, with all of the store behind each Put.
func TestPutEach(t *testing.T) {
	for _, l := range [][]string{history(), edgeEncodings(), manyEncodings(60, 1)} {
		s, want := New(), told()
		for _, x := range l {
			checkPut(t, s, x, toldId(x), api.OK)
			want.Put(x)
			checkStore(t, s, want)
		}
	}
}

// P11.1: objects of each kind, with their fields written out.
func TestObjectWritten(t *testing.T) {
	one, two := numbered(1), numbered(2)
	s := New()
	cases := []struct {
		encoding string
		want     api.Object
	}{
		{blob(""), api.Object{Kind: api.Blob}},
		{blob("data"), api.Object{Kind: api.Blob, Data: "data"}},
		{coded(2), api.Object{Kind: api.Tree}},
		{coded(2, entry(1, "a", one), entry(2, "b", two)), api.Object{Kind: api.Tree, Entries: []api.Entry{{Name: "a", Kind: api.Blob, Id: one}, {Name: "b", Kind: api.Tree, Id: two}}}},
		{commit(one, 7, "m"), api.Object{Kind: api.Commit, Tree: one, Time: 7, Text: "m"}},
		{commit(one, 7, "m", two, one, two), api.Object{Kind: api.Commit, Tree: one, Time: 7, Text: "m", Parents: []api.Id{two, one, two}}},
		{tag(3, two, "v1"), api.Object{Kind: api.Tag, Of: api.Commit, Target: two, Name: "v1"}},
	}
	for _, c := range cases {
		checkPut(t, s, c.encoding, toldId(c.encoding), api.OK)
	}
	for _, c := range cases {
		id := toldId(c.encoding)
		if o, is := s.Object(id); !is || !sameObject(o, c.want) || s.Kind(id) != c.want.Kind {
			t.Errorf("Object of %q: %#v, %v, kind %d", c.encoding, o, is, s.Kind(id))
		}
	}
}

// P11.1: the same encoding put again returns its id, and changes nothing.
func TestPutTwice(t *testing.T) {
	l := append(history(), edgeEncodings()...)
	s := filled(t, l...)
	for _, x := range l {
		checkPut(t, s, x, toldId(x), api.OK)
		checkPut(t, s, x, toldId(x), api.OK)
		checkStore(t, s, told(l...))
	}
	alone := filled(t, blob("hi"), blob("hi"), blob("hi"))
	if alone.Len() != 1 || len(alone.Ids()) != 1 {
		t.Errorf("Len %d, Ids %x", alone.Len(), alone.Ids())
	}
}

// P11.1, P11.3: bytes that are no encoding leave the store as it was, at first and later.
func TestPutWrong(t *testing.T) {
	l := history()
	empty, full := New(), filled(t, l...)
	for _, x := range wrongEncodings() {
		checkPut(t, empty, x, api.Id{}, api.ErrForm)
		checkPut(t, full, x, api.Id{}, api.ErrForm)
		checkNotThere(t, full, toldId(x))
		if empty.Len() != 0 || full.Len() != len(l) {
			t.Fatalf("behind %.60q: %d and %d objects", x, empty.Len(), full.Len())
		}
	}
	checkStore(t, empty, told())
	checkStore(t, full, told(l...))
}

// P11.1: all strings of up to two bytes, and those of three bytes that look like small objects.
func TestPutShort(t *testing.T) {
	s, want := New(), told()
	try := func(x string) {
		id, e := want.Put(x)
		checkPut(t, s, x, id, e)
	}
	try("")
	for a := range 256 {
		try(string([]byte{byte(a)}))
		for b := range 256 {
			try(string([]byte{byte(a), byte(b)}))
		}
	}
	if s.Len() != 2 { // an empty blob and an empty tree
		t.Errorf("Len: %d", s.Len())
	}
	for a := range 6 {
		for b := range 3 {
			for c := range 256 {
				try(string([]byte{byte(a), byte(b), byte(c)}))
			}
		}
	}
	checkStore(t, s, want)
}

// P11.1: an encoding of every length around the limit.
func TestPutLongest(t *testing.T) {
	s := New()
	for n := 4090; n <= 4100; n++ {
		x := blob(string(make([]byte, n)))
		if len(x) <= 4096 {
			checkPut(t, s, x, toldId(x), api.OK)
			checkThere(t, s, toldId(x), x)
		} else {
			checkPut(t, s, x, api.Id{}, api.ErrForm)
		}
	}
	if s.Len() != 4 {
		t.Errorf("Len: %d", s.Len())
	}
}

// P11.1: ids of many objects, whatever the order of the Puts, are in increasing order; each first byte occurs.
func TestIdsInOrder(t *testing.T) {
	l := manyEncodings(3000, 2)
	s := filled(t, l...)
	ids := s.Ids()
	if !slices.Equal(ids, told(l...).Ids()) || s.Len() != len(ids) {
		t.Fatalf("Len %d, Ids %d", s.Len(), len(ids))
	}
	first := map[byte]int{}
	for i, id := range ids {
		first[id[0]]++
		if i > 0 && string(ids[i-1][:]) >= string(id[:]) {
			t.Errorf("%x behind %x", id, ids[i-1])
		}
	}
	if len(first) != 256 {
		t.Errorf("%d first bytes", len(first))
	}
	for _, x := range l {
		checkThere(t, s, toldId(x), x)
	}
}

// P11.1: two ids with several first bytes in common, put in either order.
func TestNearIds(t *testing.T) {
	a, b, common := nearEncodings(20000)
	if common < 3 {
		t.Fatalf("%d bytes in common", common)
	}
	checkStore(t, filled(t, a, b), told(a, b))
	checkStore(t, filled(t, b, a), told(a, b))
	checkStore(t, filled(t, b), told(b))
	l := append(history(), b, a)
	checkStore(t, filled(t, l...), told(l...))
}

// P11.1: ids that differ in one byte only, be it the last one. No encodings with such ids are known, so the items are kept without Put.
func TestIdsOfOneByte(t *testing.T) {
	for _, place := range []int{0, 1, 30, 31} {
		for _, order := range [][]int{{0, 1, 2, 127, 128, 254, 255}, {255, 254, 128, 127, 2, 1, 0}, {128, 0, 255, 1, 127, 2, 254}} {
			s := New()
			for _, n := range order {
				id := api.Id{}
				id[place] = byte(n)
				s.keep(item{id: id, encoding: blob(string([]byte{byte(n)}))})
			}
			ids := s.Ids()
			for i, n := range []byte{0, 1, 2, 127, 128, 254, 255} {
				id := api.Id{}
				id[place] = n
				if len(ids) != 7 || ids[i] != id {
					t.Fatalf("place %d: %x", place, ids)
				}
				checkThere(t, s, id, blob(string([]byte{n})))
			}
			absent := api.Id{}
			absent[place] = 3
			checkNotThere(t, s, absent)
		}
	}
}

// P11.1, P0 (R6): another encoding with the same id is not stored. No such pair is known, so the first one is kept without Put.
func TestFirstRemains(t *testing.T) {
	x, other := blob("first"), blob("second")
	s := New()
	s.keep(item{id: toldId(other), encoding: x})
	checkPut(t, s, other, toldId(other), api.OK)
	if g, is := s.Get(toldId(other)); g != x || !is || s.Len() != 1 {
		t.Errorf("Get: %q, %v, of %d", g, is, s.Len())
	}
	if g, is := s.Copy().Get(toldId(other)); g != x || !is {
		t.Errorf("Get of the copy: %q, %v", g, is)
	}
}

// P11.2: all calls on a nil store.
func TestNil(t *testing.T) {
	var s *Store
	for _, x := range append(history(), wrongEncodings()...) {
		checkPut(t, s, x, api.Id{}, api.ErrArg)
		checkNotThere(t, s, toldId(x))
	}
	checkNotThere(t, s, api.Id{})
	if s.Len() != 0 || len(s.Ids()) != 0 {
		t.Errorf("Len %d, Ids %x", s.Len(), s.Ids())
	}
	if s.Copy() != nil {
		t.Error("Copy is not nil")
	}
	if s.Copy().Copy().Len() != 0 {
		t.Error("Copy of a copy")
	}
}

// P11.1: a copy of a store without objects has none, and is not nil; it is independent.
func TestCopyOfEmpty(t *testing.T) {
	s := New()
	c := s.Copy()
	if c == nil || c == s {
		t.Fatal("Copy")
	}
	checkStore(t, c, told())
	checkPut(t, c, blob("c"), toldId(blob("c")), api.OK)
	checkStore(t, s, told())
	checkStore(t, c, told(blob("c")))
	checkPut(t, s, blob("s"), toldId(blob("s")), api.OK)
	checkStore(t, s, told(blob("s")))
	checkStore(t, c, told(blob("c")))
}

// P11.1: what is put into a store is not seen in its copy, nor the other way round, whatever the number of objects.
func TestCopyIsIndependent(t *testing.T) {
	l := manyEncodings(40, 3)
	for n := range l {
		for _, m := range []int{0, 5, 20} {
			s := filled(t, l[:n]...)
			c := s.Copy()
			checkStore(t, c, told(l[:n]...))
			sWant, cWant := told(slices.Clone(l[:n])...), told(slices.Clone(l[:n])...)
			for i, x := range manyEncodings(m, uint64(100+n)) {
				one, want := s, sWant
				if i%2 == n%2 {
					one, want = c, cWant
				}
				checkPut(t, one, x, toldId(x), api.OK)
				want.Put(x)
			}
			checkStore(t, s, sWant)
			checkStore(t, c, cWant)
		}
	}
}

// P11.1, P0: a copy's further objects stand beside those of a second copy; none is laid over another one's.
func TestCopiesOfOne(t *testing.T) {
	l := history()
	s := filled(t, l[:5]...)
	var copies []*Store
	for _, x := range l {
		c := s.Copy()
		checkPut(t, c, x, toldId(x), api.OK)
		copies = append(copies, c)
	}
	checkStore(t, s, told(l[:5]...))
	for i, x := range l {
		checkStore(t, copies[i], told(append(slices.Clone(l[:5]), x)...))
	}
}

// P0: what a caller changes in ids, and behind them, is not seen.
func TestIdsAreNew(t *testing.T) {
	l := history()
	s := filled(t, l...)
	ids := s.Ids()
	_ = append(ids[:1], ids...)
	clear(ids[:cap(ids)])
	checkStore(t, s, told(l...))
	a, b := s.Ids(), s.Ids()
	clear(a)
	if !slices.Equal(b, told(l...).Ids()) {
		t.Errorf("Ids: %x", b)
	}
	c := s.Copy()
	clear(c.Ids())
	checkStore(t, c, told(l...))
	checkStore(t, s, told(l...))
}

// P0: what a caller changes in an object, and behind its lists, is not seen, neither in the store, nor in its copy, nor in the same object asked for before.
func TestObjectIsNew(t *testing.T) {
	l := append(history(), edgeEncodings()...)
	s := filled(t, l...)
	c := s.Copy()
	for _, x := range l {
		id := toldId(x)
		before, _ := s.Object(id)
		o, _ := s.Object(id)
		for i := range o.Entries {
			o.Entries[i] = api.Entry{Name: "changed", Kind: math.MaxInt}
		}
		for i := range o.Parents {
			o.Parents[i][31]++
		}
		clear(o.Entries[:cap(o.Entries)])
		clear(o.Parents[:cap(o.Parents)])
		if want, _ := object.Decode(x); !sameObject(before, want) {
			t.Errorf("Object of %x: %#v", id, before)
		}
		checkThere(t, s, id, x)
		checkThere(t, c, id, x)
	}
	checkStore(t, s, told(l...))
	checkStore(t, c, told(l...))
}

// P0: the bytes from which an encoding was made may change.
func TestEncodingIsKept(t *testing.T) {
	b := []byte(blob("hi"))
	s := New()
	id, _ := s.Put(string(b))
	copy(b, "\x02\x00xx")
	checkThere(t, s, id, blob("hi"))
}

// P11.3: what was put remains behind every further Put, those that fail among them.
func TestRemain(t *testing.T) {
	l, wrong := manyEncodings(400, 4), wrongEncodings()
	s, want := New(), told()
	for i, x := range l {
		checkPut(t, s, x, toldId(x), api.OK)
		want.Put(x)
		checkPut(t, s, wrong[i%len(wrong)], api.Id{}, api.ErrForm)
		if i%10 == 0 {
			for _, earlier := range l[:i+1] {
				checkThere(t, s, toldId(earlier), earlier)
			}
		}
	}
	checkStore(t, s, want)
}

// P11.3: all orders of a few encodings give the same store.
func TestAllOrders(t *testing.T) {
	l := history()[:6]
	want := told(l...)
	n := 0
	var orders func(done, rest []string)
	orders = func(done, rest []string) {
		if len(rest) == 0 {
			checkStore(t, filled(t, done...), want)
			n++
			return
		}
		for i := range rest {
			others := slices.Concat(rest[:i], rest[i+1:])
			orders(append(slices.Clone(done), rest[i]), others)
		}
	}
	orders(nil, l)
	if n != 720 {
		t.Errorf("%d orders", n)
	}
}

// P11.3: some orders of many encodings, with repeated and wrong ones between, give the same store.
func TestSomeOrders(t *testing.T) {
	l := slices.Concat(history(), edgeEncodings(), manyEncodings(100, 5))
	want := told(l...)
	ids, wrong := want.Ids(), wrongEncodings()
	for step := 1; step < len(l); step++ {
		s := New()
		for i := range l {
			s.Put(l[(i*step)%len(l)]) // all of them, or some of them several times
			s.Put(wrong[(i+step)%len(wrong)])
		}
		for i := range l {
			s.Put(l[len(l)-1-i])
		}
		if !slices.Equal(s.Ids(), ids) {
			t.Fatalf("step %d: %x", step, s.Ids())
		}
		if step%25 == 0 {
			checkStore(t, s, want)
		}
	}
}

// P11.1 to P11.3: several stores and copies of them at once, in steps of all sorts, each against its second reading.
func TestManySteps(t *testing.T) {
	wrong := wrongEncodings()
	for seed := range uint64(12) {
		l := manyEncodings(80, 10+seed)
		stores, wants := []*Store{New(), nil}, []*toldStore{told(), nil}
		x := seed
		draw := func(below int) int {
			x = x*6364136223846793005 + 1442695040888963407
			return int(x>>33) % below
		}
		for range 150 {
			i, text := draw(len(stores)), l[draw(len(l))]
			switch draw(8) {
			case 0:
				stores, wants = append(stores, stores[i].Copy()), append(wants, wants[i].Copy())
			case 1:
				text = wrong[draw(len(wrong))]
				fallthrough
			default:
				id, e := wants[i].Put(text)
				checkPut(t, stores[i], text, id, e)
			}
		}
		for i := range stores {
			if (stores[i] == nil) != (wants[i] == nil) {
				t.Fatalf("store %d is nil: %v", i, stores[i] == nil)
			}
			checkStore(t, stores[i], wants[i])
		}
	}
}

// P0 (R4): calls that ask change nothing, and answer the same again.
func TestAskingChangesNothing(t *testing.T) {
	l := history()
	s := filled(t, l...)
	for range 3 {
		checkStore(t, s, told(l...))
		s.Copy()
	}
}

// P0 (R1): a repository may be any value, the empty one among them.
func TestRepo(t *testing.T) {
	var none Repo
	if none.S.Len() != 0 || len(none.Refs) != 0 || len(none.Shallow) != 0 {
		t.Errorf("%v", none)
	}
	r := Repo{S: New(), Refs: []api.Ref{{Name: "a", Id: numbered(1)}}, Shallow: []api.Id{numbered(2)}}
	if r.S.Len() != 0 || r.Refs[0].Id != numbered(1) || r.Shallow[0] != numbered(2) {
		t.Errorf("%v", r)
	}
}
