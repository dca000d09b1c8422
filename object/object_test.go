package object

import (
	library "crypto/sha256"
	"encoding/binary"
	"encoding/hex"
	"math"
	"slices"
	"strings"
	"testing"

	"knapsack/api"
)

func checkName(t *testing.T, s string, want bool) {
	t.Helper()
	if got := Name(s); got != want {
		t.Errorf("Name of %d bytes %.60q: %t", len(s), s, got)
	}
}

func checkEncode(t *testing.T, o api.Object, want string, e api.Errno) {
	t.Helper()
	if s, f := Encode(o); s != want || f != e {
		t.Errorf("Encode(%.200q): %.200q, %d, not %.200q, %d", describe(o), s, f, want, e)
	}
}

func checkDecode(t *testing.T, s string, want api.Object, e api.Errno) {
	t.Helper()
	if o, f := Decode(s); !same(o, want) || f != e {
		t.Errorf("Decode of %d bytes %.200q: %.200q, %d, not %.200q, %d", len(s), s, describe(o), f, describe(want), e)
	}
}

// checkInvalid tries an object that is not valid. (What told makes of it may be the encoding of another one, that is.)
func checkInvalid(t *testing.T, o api.Object) {
	t.Helper()
	checkEncode(t, o, "", api.ErrArg)
	if toldValid(o) {
		t.Errorf("valid: %.200q", describe(o))
	}
}

// checkNoForm tries an object that is not valid by its own fields alone: neither it nor its bytes are permitted.
func checkNoForm(t *testing.T, o api.Object) {
	t.Helper()
	checkInvalid(t, o)
	checkDecode(t, told(o), api.Object{}, api.ErrForm)
}

// checkAsTold holds Decode against the chapter's words.
func checkAsTold(t *testing.T, s string) bool {
	t.Helper()
	o, ok := toldObject(s)
	if ok {
		checkDecode(t, s, o, api.OK)
	} else {
		checkDecode(t, s, api.Object{}, api.ErrForm)
	}
	return ok
}

// describe is a short form of an object for messages.
func describe(o api.Object) string {
	return hex.EncodeToString([]byte{byte(o.Kind)}) + " " + told(o)
}

// P4.1: names of 0, 1, MaxName and MaxName + 1 bytes, and all between.
func TestNameLengths(t *testing.T) {
	for n := range 100 {
		want := n >= 1 && n <= api.MaxName
		checkName(t, strings.Repeat("n", n), want)
		checkName(t, strings.Repeat("\xff", n), want)
		checkName(t, strings.Repeat(" ", n), want)
	}
	checkName(t, strings.Repeat("n", 256+1), false)
	checkName(t, strings.Repeat("n", 1<<16+1), false)
	// bytes count, not characters
	checkName(t, strings.Repeat("\u00e9", 20), true)
	checkName(t, strings.Repeat("\u00e9", 20)+"n", false)
	checkName(t, strings.Repeat("\u00e9", 40), false)
}

// P4.1: every byte value, at every place.
func TestNameBytes(t *testing.T) {
	for _, n := range []int{1, 2, 3, 39, 40} {
		for i := range n {
			for x := range 256 {
				b := []byte(strings.Repeat("n", n))
				b[i] = byte(x)
				checkName(t, string(b), x != 0 && x != '/')
			}
		}
	}
}

// P4.1
func TestNameWritten(t *testing.T) {
	for _, s := range []string{"a", "a.b", ".", "..", "-", "a b", "\n", "\\", "\u00e9", "\u2044", "\xc0\xaf", "\xc0\x80"} {
		checkName(t, s, true)
	}
	for _, s := range []string{"", "/", "a/b", "/a", "a/", "\x00", "a\x00", "\x00a", "a\x00b", "a/\x00", strings.Repeat("/", 40), strings.Repeat("\x00", 40)} {
		checkName(t, s, false)
	}
}

// P4.1: encodings byte by byte.
func TestEncodeWritten(t *testing.T) {
	x := api.Id{0: 'x', 31: 'y'}
	z := api.Id{0: 'z', 15: 255}
	sx, sz := "x"+strings.Repeat("\x00", 30)+"y", "z"+strings.Repeat("\x00", 14)+"\xff"+strings.Repeat("\x00", 16)
	for _, c := range []struct {
		want string
		o    api.Object
	}{
		{"\x01\x00", api.Object{Kind: 1}},
		{"\x01\x02hi", api.Object{Kind: 1, Data: "hi"}},
		{"\x01\x02\x00/", api.Object{Kind: 1, Data: "\x00/"}},
		{"\x01\xac\x02" + strings.Repeat("d", 300), api.Object{Kind: 1, Data: strings.Repeat("d", 300)}},
		{"\x02\x00", api.Object{Kind: 2}},
		{"\x02\x23\x01\x01a" + sx, api.Object{Kind: 2, Entries: []api.Entry{{Name: "a", Kind: 1, Id: x}}}},
		{"\x02\x47\x02\x01a" + sx + "\x01\x02ab" + sz, api.Object{Kind: 2, Entries: []api.Entry{{Name: "a", Kind: 2, Id: x}, {Name: "ab", Kind: 1, Id: z}}}},
		{"\x03\x23" + strings.Repeat("\x00", 35), api.Object{Kind: 3}},
		{"\x03\x45" + sx + "\x01" + sz + "\xac\x02\x01m", api.Object{Kind: 3, Tree: x, Parents: []api.Id{z}, Time: 300, Text: "m"}},
		{"\x03\x69" + sz + "\x02" + sz + sx + "\xff\xff\xff\xff\x0f\x02\x00\xff", api.Object{Kind: 3, Tree: z, Parents: []api.Id{z, x}, Time: math.MaxUint32, Text: "\x00\xff"}},
		{"\x04\x24\x03" + sx + "\x02v1", api.Object{Kind: 4, Of: 3, Target: x, Name: "v1"}},
		{"\x04\x23\x04" + sz + "\x01v", api.Object{Kind: 4, Of: 4, Target: z, Name: "v"}},
	} {
		checkEncode(t, c.o, c.want, api.OK)
		checkDecode(t, c.want, c.o, api.OK)
	}
}

// P4.1, P4.3: objects of all four kinds, there and back.
func TestThereAndBack(t *testing.T) {
	for _, o := range validObjects() {
		s := told(o)
		checkEncode(t, o, s, api.OK)
		checkDecode(t, s, o, api.OK)
		if _, ok := toldObject(s); !ok {
			t.Errorf("not valid: %.200q", describe(o))
		}
	}
}

// P4.1: each kind's longest encoding, and one byte more.
func TestLongest(t *testing.T) {
	for _, o := range []api.Object{
		blob(strings.Repeat("x", 4093)),
		wideTree(64, 29, 61),
		commit(0, 0, strings.Repeat("x", 4057)),
		commit(8, math.MaxUint32, strings.Repeat("x", 3797)),
	} {
		s := told(o)
		if len(s) != api.MaxObject {
			t.Fatalf("%d bytes", len(s))
		}
		checkEncode(t, o, s, api.OK)
		checkDecode(t, s, o, api.OK)
		checkDecode(t, s+"x", api.Object{}, api.ErrForm)
	}
	for _, o := range []api.Object{
		blob(strings.Repeat("x", 4094)),
		wideTree(64, 29, 62),
		commit(0, 0, strings.Repeat("x", 4058)),
		commit(8, math.MaxUint32, strings.Repeat("x", 3798)),
	} {
		if n := len(told(o)); n != api.MaxObject+1 {
			t.Fatalf("%d bytes", n)
		}
		checkNoForm(t, o)
	}
	for _, n := range []int{4095, 4096, 4097, 16383, 16384, 1 << 16, 1 << 20} {
		checkNoForm(t, blob(strings.Repeat("x", n)))
		checkNoForm(t, commit(2, 7, strings.Repeat("x", n)))
	}
	checkNoForm(t, wideTree(64, 40, 0))
	checkNoForm(t, wideTree(56, 40, 0))
}

// P4.1: trees of 0 to MaxEntries entries, and of more.
func TestTreeSizes(t *testing.T) {
	for n := range 100 {
		o := wideTree(n, 3, 0)
		if n > api.MaxEntries {
			checkNoForm(t, o)
			continue
		}
		checkEncode(t, o, told(o), api.OK)
		checkDecode(t, told(o), o, api.OK)
	}
	checkNoForm(t, wideTree(800, 3, 0))
}

// P4.1: commits of 0 to MaxParents parents, and of more.
func TestParentCounts(t *testing.T) {
	for n := range 130 {
		o := commit(n, 5, "m")
		if n > api.MaxParents {
			checkNoForm(t, o)
			continue
		}
		checkEncode(t, o, told(o), api.OK)
		checkDecode(t, told(o), o, api.OK)
	}
	checkNoForm(t, commit(256, 5, "m"))
	// parents may be alike, and be none
	for _, parents := range [][]api.Id{{manyId(1), manyId(1)}, {{}}, make([]api.Id, 8)} {
		o := api.Object{Kind: api.Commit, Parents: parents}
		checkEncode(t, o, told(o), api.OK)
		checkDecode(t, told(o), o, api.OK)
	}
}

// noKinds are numbers that are none of the four kinds, those among them whose lowest byte is one.
func noKinds() []int {
	l := []int{-1, 0, 5, 6, 127, 128, 255, -255, -256, math.MinInt, math.MaxInt}
	for kind := 1; kind <= 4; kind++ {
		l = append(l, -kind, kind+256, kind-256, kind+1<<16, kind+1<<32, kind-1<<32, kind+math.MinInt)
	}
	return l
}

// P4.1: a kind that is none of the four.
func TestNoKind(t *testing.T) {
	for _, kind := range noKinds() {
		checkInvalid(t, api.Object{Kind: kind})
		for _, o := range validObjects() {
			o.Kind = kind
			checkInvalid(t, o)
		}
	}
	for kind := range 256 {
		if kind >= api.Blob && kind <= api.Tag {
			continue
		}
		checkDecode(t, string([]byte{byte(kind)}), api.Object{}, api.ErrForm)
		checkDecode(t, string([]byte{byte(kind)})+"\x00", api.Object{}, api.ErrForm)
		for _, o := range smallObjects() {
			checkDecode(t, string([]byte{byte(kind)})+told(o)[1:], api.Object{}, api.ErrForm)
		}
	}
}

// P4.1: a field set that belongs to another kind, each one alone, and all of them.
func TestForeignFields(t *testing.T) {
	fields := []struct {
		kind int
		set  func(o *api.Object)
	}{
		{api.Blob, func(o *api.Object) { o.Data = "x" }},
		{api.Blob, func(o *api.Object) { o.Data = "\x00" }},
		{api.Tree, func(o *api.Object) { o.Entries = []api.Entry{{Name: "a", Kind: api.Blob}} }},
		{api.Tree, func(o *api.Object) { o.Entries = make([]api.Entry, 1) }},
		{api.Commit, func(o *api.Object) { o.Tree = api.Id{0: 1} }},
		{api.Commit, func(o *api.Object) { o.Tree = api.Id{31: 1} }},
		{api.Commit, func(o *api.Object) { o.Parents = make([]api.Id, 1) }},
		{api.Commit, func(o *api.Object) { o.Time = 1 }},
		{api.Commit, func(o *api.Object) { o.Time = 1 << 31 }},
		{api.Commit, func(o *api.Object) { o.Text = "x" }},
		{api.Commit, func(o *api.Object) { o.Text = "\x00" }},
		{api.Tag, func(o *api.Object) { o.Target = api.Id{0: 1} }},
		{api.Tag, func(o *api.Object) { o.Target = api.Id{31: 1} }},
		{api.Tag, func(o *api.Object) { o.Of = api.Blob }},
		{api.Tag, func(o *api.Object) { o.Of = -1 }},
		{api.Tag, func(o *api.Object) { o.Name = "x" }},
		{api.Tag, func(o *api.Object) { o.Name = "\x00" }},
	}
	for _, o := range []api.Object{blob(""), blob("hi"), tree(), tree("a", "b"), {Kind: api.Commit}, commit(2, 5, "m"), tag(api.Tag, "v")} {
		all := o
		for _, f := range fields {
			if f.kind == o.Kind {
				continue
			}
			one := o
			f.set(&one)
			checkInvalid(t, one)
			f.set(&all)
			checkInvalid(t, all)
		}
		// a slice that is empty, but not nil, is zero
		empty := o
		if o.Kind != api.Tree {
			empty.Entries = []api.Entry{}
		}
		if o.Kind != api.Commit {
			empty.Parents = []api.Id{}
		}
		checkEncode(t, empty, told(o), api.OK)
	}
}

// P4.1: entries in strictly increasing byte order, a prefix first, and in no other.
func TestEntryOrder(t *testing.T) {
	names := []string{"\x01", " ", "-", "A", "B", "Z", "a", "a\x01", "a.b", "aa", "ab", "b", "ba", "\x7f", "\u00e9", "\x80", "\xff", "\xff\x01", strings.Repeat("\xff", 40)}
	slices.Sort(names)
	for i, a := range names {
		for j, b := range names {
			if o := tree(a, b); i < j {
				checkEncode(t, o, told(o), api.OK)
				checkDecode(t, told(o), o, api.OK)
			} else {
				checkNoForm(t, o)
			}
		}
	}
	// two that are exchanged, or alike, at each place of a whole tree
	for i := range 63 {
		o := wideTree(64, 4, 0)
		o.Entries[i], o.Entries[i+1] = o.Entries[i+1], o.Entries[i]
		checkNoForm(t, o)
		o = wideTree(64, 4, 0)
		o.Entries[i].Name = o.Entries[i+1].Name
		checkNoForm(t, o)
	}
	// in order one by one, but not the last after the first
	checkNoForm(t, tree("b", "c", "a"))
	checkNoForm(t, tree("a", "c", "b", "d"))
	checkNoForm(t, tree("a", "b", "a"))
}

// P4.1: entries of kinds that no entry has.
func TestEntryKinds(t *testing.T) {
	for _, n := range []int{1, 2, 5} {
		for i := range n {
			for _, kind := range append(noKinds(), api.Commit, api.Tag) {
				o := wideTree(n, 3, 0)
				o.Entries[i].Kind = kind
				checkInvalid(t, o)
				if kind == int(byte(kind)) {
					checkNoForm(t, o)
				}
			}
			for _, kind := range []int{api.Blob, api.Tree} {
				o := wideTree(n, 3, 0)
				o.Entries[i].Kind = kind
				checkEncode(t, o, told(o), api.OK)
				checkDecode(t, told(o), o, api.OK)
			}
		}
	}
}

// noNames are names of 0 and of MaxName + 1 bytes and more, and names with a byte 0 or '/'.
func noNames() []string {
	return []string{"", "\x00", "/", "a/b", "a\x00b", "a/", "a\x00", "/a", "\x00a", strings.Repeat("n", 41), strings.Repeat("n", 128), strings.Repeat("n", 39) + "/"}
}

// P4.1: entries and tags whose names are not valid.
func TestWrongNames(t *testing.T) {
	for _, name := range noNames() {
		checkNoForm(t, tree(name))
		checkNoForm(t, tree(name, name+"b"))
		checkNoForm(t, tree("\x01", name))
		checkNoForm(t, tag(api.Commit, name))
	}
	for i := range 5 {
		o := wideTree(5, 3, 0)
		o.Entries[i].Name += "/"
		checkNoForm(t, o)
	}
	for _, name := range []string{"n", strings.Repeat("n", 40)} {
		for _, o := range []api.Object{tree(name), tag(api.Blob, name)} {
			checkEncode(t, o, told(o), api.OK)
			checkDecode(t, told(o), o, api.OK)
		}
	}
}

// P4.1: tags of what is no kind.
func TestTagKinds(t *testing.T) {
	for _, of := range noKinds() {
		o := tag(of, "v")
		checkInvalid(t, o)
		if of == int(byte(of)) {
			checkNoForm(t, o)
		}
	}
	checkNoForm(t, api.Object{Kind: api.Tag})
}

// P4.1: bytes that are cut off, at each place.
func TestDecodeCutOff(t *testing.T) {
	for _, o := range validObjects() {
		s := told(o)
		for n := range len(s) {
			checkDecode(t, s[:n], api.Object{}, api.ErrForm)
		}
	}
}

// P4.1: a body that is cut off, or that has more behind it, while the length before it is right.
func TestDecodeOtherBody(t *testing.T) {
	for _, o := range validObjects() {
		inner := string(toldBody(o))
		step := 1 + len(inner)/200
		for n := 0; n < len(inner); n += step {
			checkAsTold(t, rebuilt(o.Kind, inner[:n]))
			if o.Kind == api.Commit || o.Kind == api.Tag {
				checkDecode(t, rebuilt(o.Kind, inner[:n]), api.Object{}, api.ErrForm)
			}
		}
		for _, more := range []string{"\x00", "\x01", "\x80", "\xff", "x", inner} {
			checkAsTold(t, rebuilt(o.Kind, inner+more))
			if o.Kind != api.Blob && more != "" && more != inner {
				checkDecode(t, rebuilt(o.Kind, inner+more), api.Object{}, api.ErrForm)
			}
		}
	}
}

// rebuilt is a kind and a body as an encoding.
func rebuilt(kind int, inner string) string {
	return string(appendText([]byte{byte(kind)}, inner))
}

// P4.1: bytes that have more behind them, or ahead of them.
func TestDecodeMore(t *testing.T) {
	for _, o := range smallObjects() {
		s := told(o)
		for x := range 256 {
			checkDecode(t, s+string([]byte{byte(x)}), api.Object{}, api.ErrForm)
			checkAsTold(t, string([]byte{byte(x)})+s)
		}
		checkDecode(t, s+s, api.Object{}, api.ErrForm)
		checkDecode(t, s+strings.Repeat("\x00", 1000), api.Object{}, api.ErrForm)
	}
}

// longer are encodings of a number with one byte, and with many bytes, more than necessary.
func longer(n uint64) []string {
	b := binary.AppendUvarint(nil, n)
	b[len(b)-1] |= 128
	one := string(b)
	return []string{one + "\x00", one + "\x80\x00", one + strings.Repeat("\x80", 12) + "\x00"}
}

// P4.1, P4.3: numbers that are written longer than necessary, or do not fit.
func TestDecodeWrongNumbers(t *testing.T) {
	id := strings.Repeat("i", 32)
	for i := range 3 {
		for _, s := range []string{
			"\x01" + longer(2)[i] + "hi",
			"\x01" + longer(0)[i],
			"\x01" + longer(200)[i] + strings.Repeat("x", 200),
			"\x02" + longer(0)[i],
			rebuilt(2, "\x01"+longer(1)[i]+"a"+id),
			rebuilt(3, id+longer(0)[i]+"\x00\x00"),
			rebuilt(3, id+longer(1)[i]+id+"\x00\x00"),
			rebuilt(3, id+"\x00"+longer(0)[i]+"\x00"),
			rebuilt(3, id+"\x00"+longer(300)[i]+"\x00"),
			rebuilt(3, id+"\x00"+longer(math.MaxUint32)[i]+"\x00"),
			rebuilt(3, id+"\x00\x00"+longer(1)[i]+"m"),
			rebuilt(4, "\x03"+id+longer(1)[i]+"v"),
		} {
			checkDecode(t, s, api.Object{}, api.ErrForm)
		}
	}
	for _, n := range []uint64{3, 127, 1 << 12, 1 << 31, 1<<32 + 2, 1<<63 - 1, 1 << 63, math.MaxUint64} {
		number := string(binary.AppendUvarint(nil, n))
		checkDecode(t, "\x01"+number+"hi", api.Object{}, api.ErrForm)
		checkDecode(t, rebuilt(2, "\x01"+number+"a"+id), api.Object{}, api.ErrForm)
		checkDecode(t, rebuilt(3, id+number+id+"\x00\x00"), api.Object{}, api.ErrForm)
		checkDecode(t, rebuilt(3, id+"\x00\x00"+number+"m"), api.Object{}, api.ErrForm)
		checkDecode(t, rebuilt(4, "\x03"+id+number+"v"), api.Object{}, api.ErrForm)
	}
}

// P4.1: a time is a number of 32 bits, and what is more is not cut down to one.
func TestDecodeTime(t *testing.T) {
	id := strings.Repeat("i", 32)
	for _, n := range []uint64{0, 1, 127, 128, 300, 1<<32 - 1, 1 << 32, 1<<32 + 1, 1<<32 + 300, 1 << 40, 1 << 63, math.MaxUint64} {
		s := rebuilt(3, id+"\x00"+string(binary.AppendUvarint(nil, n))+"\x01m")
		if n > math.MaxUint32 {
			checkDecode(t, s, api.Object{}, api.ErrForm)
			continue
		}
		checkDecode(t, s, api.Object{Kind: api.Commit, Tree: api.Id([]byte(id)), Time: uint32(n), Text: "m"}, api.OK)
	}
}

// P4.1: all strings of at most two bytes, and more of three and four.
func TestDecodeShort(t *testing.T) {
	checkDecode(t, "", api.Object{}, api.ErrForm)
	valid := 0
	for a := range 256 {
		checkAsTold(t, string([]byte{byte(a)}))
		for b := range 256 {
			if checkAsTold(t, string([]byte{byte(a), byte(b)})) {
				valid++
			}
			for _, end := range []string{"\x00", "\x01", "hi", "\x80", "\xff\x00"} {
				checkAsTold(t, string([]byte{byte(a), byte(b)})+end)
			}
		}
	}
	if valid != 2 { // the empty blob and the empty tree
		t.Errorf("%d strings of two bytes", valid)
	}
}

// P4.1, P4.3: every other byte at every place; what is still an encoding is that of another object.
func TestDecodeOneByteChanged(t *testing.T) {
	for _, o := range smallObjects() {
		b := []byte(told(o))
		for i := range b {
			for change := 1; change < 256; change++ {
				b[i] ^= byte(change)
				if s := string(b); checkAsTold(t, s) {
					p, _ := Decode(s)
					if same(o, p) {
						t.Fatalf("two encodings: %x, %x", told(o), s)
					}
					checkEncode(t, p, s, api.OK)
				}
				b[i] ^= byte(change)
			}
		}
	}
}

// P4.1, P4.3: bytes put together from pieces of encodings, and any bytes.
func TestDecodeMixed(t *testing.T) {
	var pieces []string
	for _, o := range smallObjects() {
		pieces = append(pieces, string(toldBody(o)))
	}
	id := strings.Repeat("i", 32)
	pieces = append(pieces, "\x01\x01a"+id, "\x02\x01b"+id, "\x02\x01a"+id, "\x00", "\x01", "\x02", id, "\x01m")
	valid := 0
	for kind := range 6 {
		for _, a := range pieces {
			for _, b := range pieces {
				if checkAsTold(t, rebuilt(kind, a+b)) {
					valid++
				}
			}
		}
		for seed := range uint64(300) {
			checkAsTold(t, rebuilt(kind, manyBytes(int(seed)%90, seed)))
			checkAsTold(t, manyBytes(int(seed), seed))
		}
	}
	if valid == 0 {
		t.Error("none is an encoding")
	}
}

// P4.1: the SHA-256 of any bytes, encodings or not.
func TestId(t *testing.T) {
	l := []string{"", "\x00", "abc", "\x01\x03hi", manyBytes(4096, 1), manyBytes(4097, 2), manyBytes(1<<16, 3)}
	for n := range 200 {
		l = append(l, manyBytes(n, uint64(n)))
	}
	for _, o := range validObjects() {
		l = append(l, told(o))
	}
	for _, s := range l {
		if id, want := Id(s), api.Id(library.Sum256([]byte(s))); id != want {
			t.Errorf("Id of %d bytes: %x, not %x", len(s), id, want)
		}
	}
	for s, want := range map[string]string{
		"\x01\x02hi": "ba5167aa256949f7013fd0aee3dbf639bdb0cad8daf75089d126f8da928c143f",
		"\x02\x00":   "99be5efb88ca2013bd8e4eb035fd42d5245468fe9afa70d8ba9c1c419a48c4e8",
	} {
		if id := Id(s); hex.EncodeToString(id[:]) != want {
			t.Errorf("Id(%q): %x, not %s", s, id, want)
		}
	}
}

func checkLinks(t *testing.T, o api.Object, want ...api.Link) {
	t.Helper()
	if got := Links(o); !slices.Equal(got, want) {
		t.Errorf("Links(%.200q): %v, not %v", describe(o), got, want)
	}
}

// P4.2
func TestLinksWritten(t *testing.T) {
	a, b, c := api.Id{0: 'a'}, api.Id{31: 'b'}, api.Id{16: 'c'}
	checkLinks(t, blob(""))
	checkLinks(t, blob("hi"))
	checkLinks(t, tree())
	checkLinks(t, api.Object{Kind: api.Tree, Entries: []api.Entry{{Name: "x", Kind: api.Tree, Id: a}}}, api.Link{Id: a, Kind: api.Tree})
	checkLinks(t, api.Object{Kind: api.Tree, Entries: []api.Entry{{Name: "x", Kind: api.Blob, Id: c}, {Name: "y", Kind: api.Tree, Id: a}, {Name: "z", Kind: api.Blob, Id: b}}},
		api.Link{Id: c, Kind: api.Blob}, api.Link{Id: a, Kind: api.Tree}, api.Link{Id: b, Kind: api.Blob})
	checkLinks(t, api.Object{Kind: api.Commit, Tree: a}, api.Link{Id: a, Kind: api.Tree})
	checkLinks(t, api.Object{Kind: api.Commit, Tree: b, Parents: []api.Id{c, a}},
		api.Link{Id: b, Kind: api.Tree}, api.Link{Id: c, Kind: api.Commit}, api.Link{Id: a, Kind: api.Commit})
	for of := api.Blob; of <= api.Tag; of++ {
		checkLinks(t, api.Object{Kind: api.Tag, Of: of, Target: a, Name: "v"}, api.Link{Id: a, Kind: of})
	}
}

// P4.2: ids that are alike, or none, are told each time.
func TestLinksAlike(t *testing.T) {
	a := api.Id{0: 'a'}
	checkLinks(t, api.Object{Kind: api.Commit}, api.Link{Kind: api.Tree})
	checkLinks(t, api.Object{Kind: api.Commit, Tree: a, Parents: []api.Id{a, {}, a}},
		api.Link{Id: a, Kind: api.Tree}, api.Link{Id: a, Kind: api.Commit}, api.Link{Kind: api.Commit}, api.Link{Id: a, Kind: api.Commit})
	checkLinks(t, api.Object{Kind: api.Tree, Entries: []api.Entry{{Name: "x", Kind: api.Blob, Id: a}, {Name: "y", Kind: api.Blob, Id: a}, {Name: "z", Kind: api.Blob}}},
		api.Link{Id: a, Kind: api.Blob}, api.Link{Id: a, Kind: api.Blob}, api.Link{Kind: api.Blob})
}

// P4.2: objects that are not valid have links as well, by their kind alone.
func TestLinksOfInvalid(t *testing.T) {
	a := api.Id{0: 'a'}
	checkLinks(t, api.Object{Kind: api.Tag}, api.Link{})
	for _, kind := range noKinds() {
		checkLinks(t, api.Object{Kind: api.Tag, Of: kind, Target: a}, api.Link{Id: a, Kind: kind})
		checkLinks(t, api.Object{Kind: api.Tree, Entries: []api.Entry{{Name: "/", Kind: kind, Id: a}, {Kind: api.Commit}}}, api.Link{Id: a, Kind: kind}, api.Link{Kind: api.Commit})
	}
	full := api.Object{
		Data: "x", Entries: []api.Entry{{Name: "b", Kind: api.Tag, Id: api.Id{0: 'b'}}, {Name: "a", Kind: api.Blob, Id: a}}, Tree: api.Id{0: 'c'},
		Parents: []api.Id{{0: 'd'}, {0: 'e'}}, Time: 1, Text: "m", Target: api.Id{0: 'f'}, Of: api.Tree, Name: "v",
	}
	for _, kind := range append(noKinds(), api.Blob) {
		full.Kind = kind
		checkLinks(t, full)
	}
	full.Kind = api.Tree
	checkLinks(t, full, api.Link{Id: api.Id{0: 'b'}, Kind: api.Tag}, api.Link{Id: a, Kind: api.Blob})
	full.Kind = api.Commit
	checkLinks(t, full, api.Link{Id: api.Id{0: 'c'}, Kind: api.Tree}, api.Link{Id: api.Id{0: 'd'}, Kind: api.Commit}, api.Link{Id: api.Id{0: 'e'}, Kind: api.Commit})
	full.Kind = api.Tag
	checkLinks(t, full, api.Link{Id: api.Id{0: 'f'}, Kind: api.Tree})
}

// P4.2: more entries and parents than are permitted, all of them, in order.
func TestLinksOfMany(t *testing.T) {
	wide, old := wideTree(800, 3, 0), commit(1000, 5, "m")
	slices.Reverse(wide.Entries)
	var entries []api.Link
	for _, e := range wide.Entries {
		entries = append(entries, api.Link{Id: e.Id, Kind: e.Kind})
	}
	checkLinks(t, wide, entries...)
	parents := []api.Link{{Id: old.Tree, Kind: api.Tree}}
	for _, id := range old.Parents {
		parents = append(parents, api.Link{Id: id, Kind: api.Commit})
	}
	checkLinks(t, old, parents...)
}

// P4.3: no two objects have one encoding.
func TestNoTwoAlike(t *testing.T) {
	l := validObjects()
	for i, a := range l {
		for j, b := range l {
			s, e := Encode(a)
			u, f := Encode(b)
			if e != api.OK || f != api.OK || (s == u) != same(a, b) {
				t.Errorf("%d and %d: %.200q, %.200q", i, j, s, u)
			}
		}
	}
}

// P0 (R3): arguments stay as they are, and results are new.
func TestMemory(t *testing.T) {
	for _, o := range validObjects() {
		entries, parents := slices.Clone(o.Entries), slices.Clone(o.Parents)
		s, _ := Encode(o)
		links := Links(o)
		first, _ := Decode(s)
		second, _ := Decode(s)
		for i := range links {
			links[i] = api.Link{Kind: -1}
		}
		for i := range first.Entries {
			first.Entries[i] = api.Entry{Kind: -1}
		}
		for i := range first.Parents {
			first.Parents[i] = api.Id{0: 255}
		}
		if !slices.Equal(o.Entries, entries) || !slices.Equal(o.Parents, parents) {
			t.Errorf("changed: %.200q", describe(o))
		}
		if !same(o, second) {
			t.Errorf("shared: %.200q", describe(o))
		}
	}
}

// P0 (R4): the same answer each time, whatever was asked in between.
func TestNothingIsKept(t *testing.T) {
	for range 3 {
		checkEncode(t, blob("hi"), "\x01\x02hi", api.OK)
		checkEncode(t, tree("b", "a"), "", api.ErrArg)
		checkDecode(t, "\x01\x03hi", api.Object{}, api.ErrForm)
		checkDecode(t, "\x02\x00", tree(), api.OK)
		checkName(t, "a/b", false)
		checkName(t, "", false)
	}
}
