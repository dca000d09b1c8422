package ref

import (
	"fmt"
	"slices"
	"strconv"
	"strings"
	"testing"

	"knapsack/api"
)

const zeros = "00000000000000000000000000000000000000000000000000000000000000" // of an id but its last byte

// shown are the first few refs of a list, as a failed test tells them.
func shown(l []api.Ref) string {
	s := strconv.Itoa(len(l)) + " refs"
	for _, r := range l[:min(len(l), 6)] {
		s += fmt.Sprintf(" [%.40q %x..%x]", r.Name, r.Id[:2], r.Id[30:])
	}
	return s
}

func checkName(t *testing.T, s string, want bool) {
	t.Helper()
	if Name(s) != want {
		t.Errorf("Name of %d bytes %.60q: %v", len(s), s, !want)
	}
}

func checkFine(t *testing.T, l []api.Ref, want bool) {
	t.Helper()
	if Fine(l) != want {
		t.Errorf("Fine of %s: %v", shown(l), !want)
	}
}

func checkPut(t *testing.T, l []api.Ref, want string, e api.Errno) {
	t.Helper()
	if s, ge := Put(l); s != want || ge != e {
		t.Errorf("Put of %s: %.300q, %d, not %.300q, %d", shown(l), s, ge, want, e)
	}
}

func checkGet(t *testing.T, s string, want []api.Ref, e api.Errno) {
	t.Helper()
	if l, ge := Get(s); !slices.Equal(l, want) || ge != e {
		t.Errorf("Get of %d bytes %.300q: %s, %d, not %s, %d", len(s), s, shown(l), ge, shown(want), e)
	}
}

func checkNoText(t *testing.T, s string) {
	t.Helper()
	checkGet(t, s, nil, api.ErrForm)
}

func checkFind(t *testing.T, l []api.Ref, name string, want api.Id, ok bool) {
	t.Helper()
	if got, gok := Find(l, name); got != want || gok != ok {
		t.Errorf("Find of %.60q in %s: %x, %v, not %x, %v", name, shown(l), got, gok, want, ok)
	}
}

// text is the text of refs that may be, written without Put.
func text(t *testing.T, l []api.Ref) string {
	t.Helper()
	s, e := toldPut(l)
	if e != api.OK {
		t.Fatalf("these may not be: %s", shown(l))
	}
	return s
}

// P9.1: names that may be, and names that may not.
func TestNameWritten(t *testing.T) {
	for _, s := range goodNames() {
		checkName(t, s, true)
	}
	for _, s := range wrongNames() {
		checkName(t, s, false)
	}
}

// P9.1: every length up to some more than may be, and lengths that would look small if they wrapped round.
func TestNameEveryLength(t *testing.T) {
	for _, c := range []string{"a", "!", "~"} {
		for n := range 300 {
			checkName(t, strings.Repeat(c, n), n >= 1 && n <= 40)
		}
		for _, n := range []int{65535, 65536, 65537, 65576, 1 << 20} {
			checkName(t, strings.Repeat(c, n), false)
		}
	}
}

// P9.1: every byte, alone and at every place of names of several lengths.
func TestNameEveryByte(t *testing.T) {
	for _, n := range []int{1, 2, 3, 39, 40, 41} {
		for i := range n {
			for c := range 256 {
				b := []byte(strings.Repeat("a", n))
				b[i] = byte(c)
				checkName(t, string(b), n <= 40 && c >= 33 && c <= 126)
			}
		}
	}
}

// P9.1: lists that may be, and lists that may not.
func TestFineWritten(t *testing.T) {
	for _, l := range goodLists() {
		checkFine(t, l, true)
	}
	for _, l := range wrongLists() {
		checkFine(t, l, false)
	}
}

// P9.1: every number of refs.
func TestFineEveryLength(t *testing.T) {
	for n := range 140 {
		checkFine(t, many(n), n <= 64)
	}
}

// P9.1: the zero id, at every place of a list, and each id that has one byte that is not zero.
func TestFineIds(t *testing.T) {
	for _, n := range []int{1, 2, 3, 64} {
		for i := range n {
			l := many(n)
			l[i].Id = api.Id{}
			checkFine(t, l, false)
			for j := range 32 {
				for _, b := range []byte{1, 128, 255} {
					l[i].Id = api.Id{}
					l[i].Id[j] = b
					checkFine(t, l, true)
				}
			}
		}
	}
}

// P9.1: a name that may not be, at every place of a list.
func TestFineNames(t *testing.T) {
	for _, n := range []int{1, 2, 3, 64} {
		for i := range n {
			l := many(n)
			good := l[i].Name
			for _, c := range []string{" ", "\n", "\x00", "\x7f", "\x80", "\xff", strings.Repeat("a", 37)} {
				l[i].Name = good + c // behind what is there, so that the order stays
				checkFine(t, l, false)
			}
			l[i].Name = good + strings.Repeat("a", 36)
			checkFine(t, l, true)
		}
	}
}

// P9.1: all pairs of names, and any two neighbours of a list changed.
func TestFineOrder(t *testing.T) {
	names := goodNames()
	for i, a := range names {
		for j, b := range names {
			checkFine(t, few(a, b), i < j)
			checkFine(t, few("!", a, b, strings.Repeat("~", 40)), 0 < i && i < j && j < len(names)-1)
		}
	}
	for i := range 63 {
		l := many(64)
		l[i], l[i+1] = l[i+1], l[i]
		checkFine(t, l, false)
		l = many(64)
		l[i+1].Name = l[i].Name
		checkFine(t, l, false)
		l[i+1] = l[i]
		checkFine(t, l, false)
	}
}

// P9.1: all lists of up to four of a few names, those that begin with another and an empty one among them.
func TestFineAllLists(t *testing.T) {
	count := map[bool]int{}
	allNames([]string{"a", "aa", "ab", "b", "B", "a!", ""}, 4, nil, func(names []string) {
		l := few(names...)
		want := toldFine(l)
		checkFine(t, l, want)
		count[want]++
	})
	if count[true] < 40 || count[false] < 2000 {
		t.Errorf("too few of one kind: %v", count)
	}
}

// allNames calls try with every list of at most n of these names.
func allNames(of []string, n int, done []string, try func(names []string)) {
	try(done)
	if n == 0 {
		return
	}
	for _, name := range of {
		allNames(of, n-1, append(done[:len(done):len(done)], name), try)
	}
}

// P9.1: texts written out.
func TestTextsWritten(t *testing.T) {
	for _, c := range []struct {
		l    []api.Ref
		want string
	}{
		{nil, ""},
		{[]api.Ref{}, ""},
		{few("a"), zeros + "01 a\n"},
		{few("a", "b"), zeros + "01 a\n" + zeros + "02 b\n"},
		{few("heads/main", "tags/v1"), zeros + "01 heads/main\n" + zeros + "02 tags/v1\n"},
		{oneRef("!", api.Id{0: 0x0f, 31: 0xa0}), "0f" + zeros[2:] + "a0 !\n"},
		{oneRef(strings.Repeat("~", 40), id(255)), zeros + "ff " + strings.Repeat("~", 40) + "\n"},
		{oneRef("a", api.Id{0x01, 0x23, 0x45, 0x67, 0x89, 0xab, 0xcd, 0xef}), "0123456789abcdef" + strings.Repeat("0", 48) + " a\n"},
		{[]api.Ref{{Name: "a", Id: id(1)}, {Name: "b", Id: id(1)}}, zeros + "01 a\n" + zeros + "01 b\n"},
	} {
		checkPut(t, c.l, c.want, api.OK)
		checkGet(t, c.want, c.l, api.OK)
	}
}

// P9.1, P9.3: texts there and back, of refs of all kinds.
func TestTextsThereAndBack(t *testing.T) {
	for _, l := range goodLists() {
		s, e := Put(l)
		if e != api.OK || s != text(t, l) {
			t.Errorf("Put of %s: %.300q, %d", shown(l), s, e)
		}
		checkGet(t, s, l, api.OK)
	}
	for n := range 65 {
		l := many(n)
		checkPut(t, l, text(t, l), api.OK)
		checkGet(t, text(t, l), l, api.OK)
	}
	for i := range 32 {
		for b := 1; b < 256; b++ {
			var one api.Id
			one[i] = byte(b)
			s, e := Put(oneRef("a", one))
			if e != api.OK {
				t.Errorf("Put of the id %x: %d", one, e)
			}
			checkGet(t, s, oneRef("a", one), api.OK)
		}
	}
}

// P9.1: refs that may not be have no text.
func TestPutWrong(t *testing.T) {
	for _, l := range wrongLists() {
		checkPut(t, l, "", api.ErrArg)
	}
}

// P9.1: lines of refs that may not be are no text.
func TestGetOfWrongRefs(t *testing.T) {
	for _, l := range wrongLists() {
		checkNoText(t, toldLines(l))
	}
	for n := 65; n < 140; n++ {
		checkNoText(t, toldLines(many(n)))
	}
}

// P9.1: texts cut short anywhere, at either end; only where a line ends are there texts again.
func TestGetCutShort(t *testing.T) {
	for _, l := range [][]api.Ref{few("a"), few("a", "b", "c"), few("heads/main", "tags/v1"), many(64)} {
		s := text(t, l)
		lines := 0
		for n := 1; n < len(s); n++ {
			if s[n-1] == '\n' {
				lines++
				checkGet(t, s[:n], l[:lines], api.OK)
				checkGet(t, s[n:], l[lines:], api.OK)
			} else {
				checkNoText(t, s[:n])
				checkNoText(t, s[n:])
			}
		}
	}
}

// P9.1: bytes ahead of, between and behind the lines.
func TestGetMoreBytes(t *testing.T) {
	a, b := zeros+"01 a\n", zeros+"02 b\n"
	for _, more := range []string{"x", "\n", " ", "\r", "\x00", "0", "\n\n", " \n", "x\n", " x\n", zeros, zeros + "03", zeros + "03 ", zeros + "03 c", zeros + "03 \n", zeros + "03c\n"} {
		for _, s := range []string{more, more + a, a + more, a + more + b, a + b + more, text(t, many(64)) + more} {
			checkNoText(t, s)
		}
	}
	checkNoText(t, zeros+"01 a\r\n")
	checkNoText(t, zeros+"01  a\n")
	checkNoText(t, zeros+"01 a \n")
	checkNoText(t, zeros+"01 a b\n")
	checkNoText(t, zeros+"01\ta\n")
	checkNoText(t, zeros+"01a\n")
	checkNoText(t, zeros+"01 a"+b)
	checkNoText(t, zeros+"01\n")
	checkNoText(t, zeros+"01 \n")
	checkNoText(t, " a\n")
	checkNoText(t, "a "+zeros+"01\n")
}

// P9.1: every other byte, at every place of texts.
func TestGetEveryByte(t *testing.T) {
	for _, l := range [][]api.Ref{few("a"), oneRef("heads/main", someId(1)), few("a", "c"), oneRef(strings.Repeat("m", 40), someId(2))} {
		s := text(t, l)
		count := map[api.Errno]int{}
		for i := range len(s) {
			for c := range 256 {
				b := []byte(s)
				b[i] = byte(c)
				want, e := toldGet(string(b))
				checkGet(t, string(b), want, e)
				count[e]++
			}
		}
		if count[api.OK] < 64*15 || count[api.ErrForm] < 64*200 {
			t.Errorf("too few of one kind: %v", count)
		}
	}
}

// P9.1: figures that Hex does not write.
func TestGetOtherFigures(t *testing.T) {
	for _, figures := range []string{
		strings.Repeat("A", 64), strings.Repeat("F", 64), strings.ToUpper(zeros + "ab"), "0x" + zeros, zeros + "0g", "g0" + zeros, zeros + "-1", zeros + "+1",
		zeros + "1", zeros + "001", zeros, "01" + zeros + "01", "", "1", strings.Repeat("\u0661", 32),
	} {
		checkNoText(t, figures+" a\n")
	}
	checkNoText(t, zeros+"00 a\n")
	checkNoText(t, zeros+"01 a\n"+zeros+"00 b\n")
	checkNoText(t, zeros+"00 a\n"+zeros+"01 b\n")
}

// P9.1: a text of very many lines.
func TestGetLong(t *testing.T) {
	checkNoText(t, strings.Repeat(zeros+"01 a\n", 10000))
	checkNoText(t, strings.Repeat("\n", 100000))
	checkNoText(t, strings.Repeat("a", 1000000))
	checkNoText(t, zeros+"01 "+strings.Repeat("a", 1000000)+"\n")
}

// P9.1: a name that is found first, last, between or not at all.
func TestFindWritten(t *testing.T) {
	l := few("a", "ab", "b", "heads/main")
	checkFind(t, l, "a", id(1), true)
	checkFind(t, l, "ab", id(2), true)
	checkFind(t, l, "b", id(3), true)
	checkFind(t, l, "heads/main", id(4), true)
	for _, name := range []string{"", "A", "aa", "abc", "bb", "c", "heads", "heads/mai", "heads/main2", "~", "!", "a\x00", " a"} {
		checkFind(t, l, name, api.Id{}, false)
	}
	checkFind(t, nil, "a", api.Id{}, false)
	checkFind(t, nil, "", api.Id{}, false)
	checkFind(t, []api.Ref{}, "a", api.Id{}, false)
}

// P9.1: every name of a list, and those between them.
func TestFindEvery(t *testing.T) {
	for _, n := range []int{0, 1, 2, 63, 64} {
		l := many(n)
		for i := range l {
			checkFind(t, l, numbered(2*i), someId(uint64(i)), true)
			checkFind(t, l, numbered(2*i+1), api.Id{}, false)
		}
		checkFind(t, l, numbered(2*n), api.Id{}, false)
	}
}

// P9.1: Find looks at any list, also one that may not be: the first of those with the name counts, whatever its id.
func TestFindInAnyList(t *testing.T) {
	checkFind(t, few("a", "a", "a"), "a", id(1), true)
	checkFind(t, few("b", "a", "b", "a"), "a", id(2), true)
	checkFind(t, few("c", "b", "a"), "a", id(3), true)
	checkFind(t, few("c", "b", "a"), "c", id(1), true)
	checkFind(t, []api.Ref{{Name: "a"}, {Name: "a", Id: id(1)}}, "a", api.Id{}, true)
	checkFind(t, []api.Ref{{Name: "a", Id: id(1)}, {Name: "a"}}, "a", id(1), true)
	checkFind(t, []api.Ref{{}}, "", api.Id{}, true)
	checkFind(t, []api.Ref{{Id: id(7)}}, "", id(7), true)
	checkFind(t, many(1000), numbered(1998), someId(999), true)
	for _, l := range append(goodLists(), wrongLists()...) {
		for _, name := range append(goodNames(), wrongNames()...) {
			want, ok := toldFind(l, name)
			checkFind(t, l, name, want, ok)
		}
		for _, r := range l {
			want, ok := toldFind(l, r.Name)
			checkFind(t, l, r.Name, want, ok)
		}
	}
}

// P0: arguments stay as they are, results are new, and nothing is kept.
func TestTextsKeepNothing(t *testing.T) {
	l := few("a", "b")
	s := zeros + "01 a\n" + zeros + "02 b\n"
	for range 3 {
		checkPut(t, few("b", "a"), "", api.ErrArg)
		checkNoText(t, s+"x")
		checkPut(t, l, s, api.OK)
		checkFind(t, l, "b", id(2), true)
		checkFine(t, l, true)
		if !slices.Equal(l, few("a", "b")) {
			t.Fatalf("the refs were changed: %s", shown(l))
		}
		got, e := Get(s)
		if !slices.Equal(got, l) || e != api.OK {
			t.Fatalf("Get: %s, %d", shown(got), e)
		}
		got[0], got[1] = api.Ref{Name: "x"}, api.Ref{} // no later result may have these
	}
	wrong := few("b", "a", "a")
	Put(wrong)
	Fine(wrong)
	Find(wrong, "a")
	if !slices.Equal(wrong, few("b", "a", "a")) {
		t.Errorf("refs that may not be were changed: %s", shown(wrong))
	}
}
