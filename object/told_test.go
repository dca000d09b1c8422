package object

import (
	"bytes"
	"encoding/binary"
	"math"
	"strconv"
	"strings"

	"knapsack/api"
)

// This file is the chapter a second time, worked out without the package's own code and without the layers below it, and the objects on which the tests try both.

// told are the bytes that the chapter's words make of an object, valid or not. (Of a kind that does not fit into a byte, the lowest one.)
func told(o api.Object) string {
	b := []byte{byte(o.Kind)}
	inner := toldBody(o)
	b = binary.AppendUvarint(b, uint64(len(inner)))
	return string(append(b, inner...))
}

func toldBody(o api.Object) []byte {
	var b []byte
	switch o.Kind {
	case api.Blob:
		b = append(b, o.Data...)
	case api.Tree:
		for _, e := range o.Entries {
			b = append(b, byte(e.Kind))
			b = appendText(b, e.Name)
			b = append(b, e.Id[:]...)
		}
	case api.Commit:
		b = append(b, o.Tree[:]...)
		b = binary.AppendUvarint(b, uint64(len(o.Parents)))
		for _, p := range o.Parents {
			b = append(b, p[:]...)
		}
		b = binary.AppendUvarint(b, uint64(o.Time))
		b = appendText(b, o.Text)
	case api.Tag:
		b = append(b, byte(o.Of))
		b = append(b, o.Target[:]...)
		b = appendText(b, o.Name)
	}
	return b
}

func appendText(b []byte, text string) []byte {
	b = binary.AppendUvarint(b, uint64(len(text)))
	return append(b, text...)
}

// toldName tells whether a name is valid.
func toldName(s string) bool {
	return len(s) >= 1 && len(s) <= 40 && !bytes.ContainsAny([]byte(s), "\x00/")
}

// toldValid tells whether an object is valid. The fields of other kinds are zero if the object is the same with its own fields alone.
func toldValid(o api.Object) bool {
	own := api.Object{Kind: o.Kind}
	switch o.Kind {
	case 1:
		own.Data = o.Data
	case 2:
		own.Entries = o.Entries
	case 3:
		own.Tree, own.Parents, own.Time, own.Text = o.Tree, o.Parents, o.Time, o.Text
	case 4:
		own.Target, own.Of, own.Name = o.Target, o.Of, o.Name
	default:
		return false
	}
	if !same(own, o) || len(told(o)) > 4096 || len(o.Parents) > 8 || len(o.Entries) > 64 {
		return false
	}
	if o.Kind == 4 && (o.Of < 1 || o.Of > 4 || !toldName(o.Name)) {
		return false
	}
	for i, e := range o.Entries {
		if !toldName(e.Name) || e.Kind != 1 && e.Kind != 2 {
			return false
		}
		if i > 0 && bytes.Compare([]byte(o.Entries[i-1].Name), []byte(e.Name)) >= 0 {
			return false
		}
	}
	return true
}

// toldObject is the valid object whose encoding is s. Whatever looks like an object is read, and then held against the words above.
func toldObject(s string) (o api.Object, ok bool) {
	defer func() {
		if recover() != nil { // read beyond the end
			o, ok = api.Object{}, false
		}
	}()
	b := []byte(s)
	one := func() int {
		x := b[0]
		b = b[1:]
		return int(x)
	}
	number := func() uint64 {
		n, size := binary.Uvarint(b)
		if size <= 0 {
			panic("no number")
		}
		b = b[size:]
		return n
	}
	some := func(n uint64) string {
		x := string(b[:n])
		b = b[n:]
		return x
	}
	id := func() api.Id { return api.Id([]byte(some(32))) }
	o.Kind = one()
	number()
	switch o.Kind {
	case 1:
		o.Data = string(b)
	case 2:
		for len(b) > 0 {
			e := api.Entry{Kind: one()}
			e.Name = some(number())
			e.Id = id()
			o.Entries = append(o.Entries, e)
		}
	case 3:
		o.Tree = id()
		for n := number(); n > 0; n-- {
			o.Parents = append(o.Parents, id())
		}
		o.Time = uint32(number())
		o.Text = some(number())
	case 4:
		o.Of = one()
		o.Target = id()
		o.Name = some(number())
	}
	if !toldValid(o) || told(o) != s {
		return api.Object{}, false
	}
	return o, true
}

// same tells whether two objects are equal, a nil slice being an empty one.
func same(a, b api.Object) bool {
	if len(a.Entries) != len(b.Entries) || len(a.Parents) != len(b.Parents) {
		return false
	}
	for i := range a.Entries {
		if a.Entries[i] != b.Entries[i] {
			return false
		}
	}
	for i := range a.Parents {
		if a.Parents[i] != b.Parents[i] {
			return false
		}
	}
	return a.Kind == b.Kind && a.Data == b.Data && a.Tree == b.Tree && a.Time == b.Time && a.Text == b.Text &&
		a.Target == b.Target && a.Of == b.Of && a.Name == b.Name
}

// manyBytes are n bytes of all values, always the same ones for a seed.
func manyBytes(n int, seed uint64) string {
	b := make([]byte, n)
	x := seed
	for i := range b {
		x = x*6364136223846793005 + 1442695040888963407
		b[i] = byte(x >> 56)
	}
	return string(b)
}

func manyId(seed int) api.Id {
	return api.Id([]byte(manyBytes(32, uint64(seed)+77)))
}

func blob(data string) api.Object {
	return api.Object{Kind: api.Blob, Data: data}
}

// tree has entries of those names, in that order, blobs and trees by turns.
func tree(names ...string) api.Object {
	o := api.Object{Kind: api.Tree}
	for i, n := range names {
		o.Entries = append(o.Entries, api.Entry{Name: n, Kind: api.Blob + i%2, Id: manyId(i)})
	}
	return o
}

// wideTree has n entries, whose names have size bytes (three at least), the last more of them one byte more.
func wideTree(n, size, more int) api.Object {
	var names []string
	for i := range n {
		name := strconv.Itoa(100+i) + strings.Repeat("n", size-3)
		if i >= n-more {
			name += "n"
		}
		names = append(names, name)
	}
	return tree(names...)
}

// commit has n parents.
func commit(n int, time uint32, text string) api.Object {
	o := api.Object{Kind: api.Commit, Tree: manyId(1000), Time: time, Text: text}
	for i := range n {
		o.Parents = append(o.Parents, manyId(i))
	}
	return o
}

func tag(of int, name string) api.Object {
	return api.Object{Kind: api.Tag, Of: of, Target: manyId(of), Name: name}
}

// edgeTexts are of any bytes, and of lengths at which the length's encoding changes.
func edgeTexts() []string {
	l := []string{"", "hi", "\x00", "/", "\xff\xfe", "\u00e9\n", "\x01\x02hi"}
	for _, n := range []int{1, 126, 127, 128, 129, 1000, 2047, 3000} {
		l = append(l, strings.Repeat("x", n), manyBytes(n, uint64(n)))
	}
	return l
}

// validObjects are objects of all four kinds that are valid, those at the edges among them.
func validObjects() []api.Object {
	var l []api.Object
	for _, text := range edgeTexts() {
		l = append(l, blob(text), commit(0, 0, text), commit(3, 300, text))
	}
	l = append(l,
		blob(strings.Repeat("x", 4093)),
		tree(), tree("a"), tree("a", "b"), tree("a", "a\x01", "ab", "b"), tree(".", "..", "\x80", "\xff"),
		tree(strings.Repeat("n", 40)), tree("\xff", strings.Repeat("\xff", 40)),
		wideTree(63, 4, 0), wideTree(64, 3, 0), wideTree(64, 29, 0), wideTree(64, 29, 61), wideTree(55, 40, 0),
		api.Object{Kind: api.Tree, Entries: []api.Entry{{Name: "none", Kind: api.Tree}}},
		api.Object{Kind: api.Commit},
		api.Object{Kind: api.Commit, Parents: make([]api.Id, 8)},
		api.Object{Kind: api.Tag, Of: api.Blob, Name: "v"},
		commit(8, math.MaxUint32, strings.Repeat("x", 3797)),
		commit(0, 0, strings.Repeat("x", 4057)),
	)
	for n := range 9 {
		l = append(l, commit(n, uint32(n), "m"))
	}
	for _, time := range []uint32{1, 127, 128, 300, 16383, 16384, 1<<31 - 1, 1 << 31, math.MaxUint32 - 1, math.MaxUint32} {
		l = append(l, commit(1, time, "m"))
	}
	for of := api.Blob; of <= api.Tag; of++ {
		l = append(l, tag(of, "v1"), tag(of, "\xff"), tag(of, strings.Repeat("v", 40)))
	}
	return l
}

// smallObjects are the valid ones of few bytes, on which much can be tried.
func smallObjects() []api.Object {
	var l []api.Object
	for _, o := range validObjects() {
		if len(told(o)) <= 110 {
			l = append(l, o)
		}
	}
	return l
}
