package caps

import (
	"fmt"
	"slices"
	"strconv"
	"strings"
	"testing"

	"knapsack/api"
)

// shown are the first few words of a list, as a failed test tells them.
func shown(l []string) string {
	s := strconv.Itoa(len(l)) + " words"
	for _, word := range l[:min(len(l), 21)] {
		s += fmt.Sprintf(" %.40q", word)
	}
	return s
}

func checkFine(t *testing.T, l []string, want bool) {
	t.Helper()
	if Fine(l) != want {
		t.Errorf("Fine of %s: %v", shown(l), !want)
	}
}

func checkPut(t *testing.T, l []string, want string, e api.Errno) {
	t.Helper()
	if s, ge := Put(l); s != want || ge != e {
		t.Errorf("Put of %s: %.300q, %d, not %.300q, %d", shown(l), s, ge, want, e)
	}
}

func checkGet(t *testing.T, s string, want []string, e api.Errno) {
	t.Helper()
	if l, ge := Get(s); !slices.Equal(l, want) || ge != e {
		t.Errorf("Get of %d bytes %.300q: %s, %d, not %s, %d", len(s), s, shown(l), ge, shown(want), e)
	}
}

func checkNoText(t *testing.T, s string) {
	t.Helper()
	checkGet(t, s, nil, api.ErrForm)
}

// checkAsTold holds Get of a text against the second reading; a text that is one must be what Put writes.
func checkAsTold(t *testing.T, s string) api.Errno {
	t.Helper()
	l, e := toldGet(s)
	checkGet(t, s, l, e)
	if e == api.OK {
		checkPut(t, l, s, api.OK)
	}
	return e
}

// P10.1: the known capabilities, as the chapter lists them.
func TestKnown(t *testing.T) {
	if l := Known(); !slices.Equal(l, few("atomic", "band", "deepen", "ofs", "thin")) {
		t.Errorf("Known: %s", shown(l))
	}
	checkFine(t, Known(), true)
	checkPut(t, Known(), "atomic band deepen ofs thin", api.OK)
	checkGet(t, "atomic band deepen ofs thin", Known(), api.OK)
}

// P10.1, P0: what a caller does with the result changes no later one, nor what is chosen.
func TestKnownIsNew(t *testing.T) {
	for i := range 5 {
		l := Known()
		l[i] = "changed"
		if slices.Equal(Known(), l) || !slices.Equal(Known(), toldKnown()) {
			t.Fatalf("Known: %s", shown(Known()))
		}
		_ = append(l[:i], "other", "words")
		clear(l[:cap(l)])
		if !slices.Equal(Known(), toldKnown()) {
			t.Fatalf("Known: %s", shown(Known()))
		}
		checkChoose(t, toldKnown(), toldKnown(), toldKnown())
		checkChoose(t, few("changed", "other", ""), few("changed", "other", ""), nil)
	}
}

// P10.1: the limits.
func TestLimits(t *testing.T) {
	if MaxWord != 20 || MaxWords != 20 {
		t.Errorf("limits %d, %d", MaxWord, MaxWords)
	}
}

// P10.1: lists that may be, and lists that may not.
func TestFineWritten(t *testing.T) {
	for _, l := range goodLists() {
		checkFine(t, l, true)
	}
	for _, l := range wrongLists() {
		checkFine(t, l, false)
	}
	for _, name := range goodNames() {
		checkFine(t, few(name), true)
	}
	for _, name := range wrongNames() {
		checkFine(t, few(name), false)
	}
}

// P10.1: names of every length up to some more than may be, and lengths that would look small if they wrapped round.
func TestFineEveryLength(t *testing.T) {
	for _, c := range []string{"a", "z", "0", "9", "-"} {
		for n := range 300 {
			checkFine(t, few(strings.Repeat(c, n)), n >= 1 && n <= 20)
		}
		for _, n := range []int{65535, 65536, 65537, 65556, 1 << 20} {
			checkFine(t, few(strings.Repeat(c, n)), false)
		}
	}
}

// P10.1: every byte, alone and at every place of names of several lengths.
func TestFineEveryByte(t *testing.T) {
	for _, n := range []int{1, 2, 3, 19, 20, 21} {
		for i := range n {
			for c := range 256 {
				b := []byte(strings.Repeat("a", n))
				b[i] = byte(c)
				may := c >= 'a' && c <= 'z' || c >= '0' && c <= '9' || c == '-'
				checkFine(t, few(string(b)), n <= 20 && may)
			}
		}
	}
}

// P10.1: the bytes that may be, those next to them, and capital letters.
func TestFineBytesWritten(t *testing.T) {
	for _, c := range "az09-m5" {
		checkFine(t, few(string(c)), true)
	}
	for _, c := range "`{/:,.AZM_+ \n" {
		checkFine(t, few(string(c)), false)
		checkFine(t, few("a"+string(c)), false)
		checkFine(t, few(string(c)+"a"), false)
	}
}

// P10.1: every number of names.
func TestFineEveryNumber(t *testing.T) {
	for n := range 300 {
		checkFine(t, many(n), n <= 20)
	}
	for _, n := range []int{65536, 65537, 65556} {
		checkFine(t, many(n), false)
	}
}

// P10.1: a name that may not be, at every place of a list.
func TestFineNameAnywhere(t *testing.T) {
	for _, n := range []int{1, 2, 3, 20} {
		for i := range n {
			l := many(n)
			good := l[i]
			for _, c := range []string{" ", "\n", "\x00", "_", "A", "{", "\xff", strings.Repeat("a", 16)} {
				l[i] = good + c // behind what is there, so that the order stays
				checkFine(t, l, false)
			}
			l[i] = good + strings.Repeat("a", 15)
			checkFine(t, l, true)
		}
	}
}

// P10.1: all pairs of names, and any two neighbours of a list changed.
func TestFineOrder(t *testing.T) {
	names := goodNames()
	for i, a := range names {
		for j, b := range names {
			checkFine(t, few(a, b), i < j)
			checkFine(t, few(names[0], a, b, names[len(names)-1]), 0 < i && i < j && j < len(names)-1)
		}
	}
	for i := range 19 {
		l := many(20)
		l[i], l[i+1] = l[i+1], l[i]
		checkFine(t, l, false)
		l = many(20)
		l[i+1] = l[i]
		checkFine(t, l, false)
		l[i+1] = l[i] + "a" // one that another begins with
		checkFine(t, l, true)
		l[i], l[i+1] = l[i+1], l[i]
		checkFine(t, l, false)
	}
}

// P10.1: all lists of up to four of a few names, those that begin with another and an empty one among them; Put says the same of them.
func TestFineAllLists(t *testing.T) {
	count := map[bool]int{}
	allLists([]string{"a", "aa", "ab", "b", "-", "B", ""}, 4, nil, func(l []string) {
		want := toldFine(l)
		checkFine(t, l, want)
		count[want]++
		s, e := toldPut(l)
		checkPut(t, l, s, e)
	})
	if count[true] < 30 || count[false] < 2000 {
		t.Errorf("too few of one kind: %v", count)
	}
}

// P10.1: texts written out, the chapter's examples among them.
func TestTextsWritten(t *testing.T) {
	for _, c := range []struct {
		l    []string
		want string
	}{
		{nil, ""},
		{[]string{}, ""},
		{few("a"), "a"},
		{few("-"), "-"},
		{few("band", "thin"), "band thin"},
		{few("a-1", "band", "thin"), "a-1 band thin"},
		{few("-", "0", "9", "a", "z"), "- 0 9 a z"},
		{few("a", "aa", "ab"), "a aa ab"},
		{few("10", "2"), "10 2"},
		{few("abcdefghijklmnopqrst", "uvwxyz0123456789----"), "abcdefghijklmnopqrst uvwxyz0123456789----"},
		{many(20), "w0000 w0001 w0002 w0003 w0004 w0005 w0006 w0007 w0008 w0009 w0010 w0011 w0012 w0013 w0014 w0015 w0016 w0017 w0018 w0019"},
	} {
		checkPut(t, c.l, c.want, api.OK)
		checkGet(t, c.want, c.l, api.OK)
	}
}

// P10.1, P10.3: texts there and back.
func TestTextsThereAndBack(t *testing.T) {
	for _, l := range goodLists() {
		s, e := Put(l)
		if e != api.OK || s != toldWords(l) {
			t.Errorf("Put of %s: %.300q, %d", shown(l), s, e)
		}
		checkGet(t, s, l, api.OK)
	}
	var longest []string
	for i := range 20 {
		longest = append(longest, strings.Repeat("m", 18)+fmt.Sprintf("%02d", i))
		s, e := Put(longest)
		if e != api.OK || len(s) != 21*(i+1)-1 {
			t.Errorf("Put of %s: %q, %d", shown(longest), s, e)
		}
		checkGet(t, s, longest, api.OK)
	}
}

// P10.1: lists that may not be have no text.
func TestPutWrong(t *testing.T) {
	for _, l := range wrongLists() {
		checkPut(t, l, "", api.ErrArg)
	}
	for n := range 300 {
		s, e := toldPut(many(n))
		checkPut(t, many(n), s, e)
	}
}

// P10.1: the words of lists that may not be are a text only where they can be read as another list.
func TestGetOfWrongLists(t *testing.T) {
	read := 0
	for _, l := range wrongLists() {
		if checkAsTold(t, toldWords(l)) == api.OK {
			read++
		}
	}
	if read == 0 || read > 12 {
		t.Errorf("%d were read", read)
	}
	checkGet(t, toldWords(few("")), nil, api.OK)
	checkGet(t, toldWords(few("band thin")), few("band", "thin"), api.OK)
	for n := 21; n < 300; n++ {
		checkNoText(t, toldWords(many(n)))
	}
}

// P10.1: texts of names that may not be, alone and beside others.
func TestGetWrongNames(t *testing.T) {
	for _, name := range wrongNames() {
		if _, e := toldGet(name); e == api.OK { // the empty text, or two names
			continue
		}
		for _, s := range []string{name, "- " + name, name + " zz", "- " + name + " zz"} {
			checkNoText(t, s)
		}
	}
	for _, s := range []string{"A", "Band", "a_b", "twenty-one-bytes-aaaa", "band Thin", "band,thin", "band=1", "a b\u00e9"} {
		checkNoText(t, s)
	}
}

// P10.1: names out of order, and twice the same.
func TestGetOrder(t *testing.T) {
	for _, s := range []string{"b a", "a a", "thin band", "a b a", "a c b", "a b b", "aa a", "a- a", "2 10", "a 9", "0 -", "atomic band deepen thin ofs"} {
		checkNoText(t, s)
	}
	for i, a := range goodNames() {
		for j, b := range goodNames() {
			if i < j {
				checkGet(t, a+" "+b, few(a, b), api.OK)
			} else {
				checkNoText(t, a+" "+b)
			}
		}
	}
}

// P10.1: more spaces, at every place of a text.
func TestGetSpaces(t *testing.T) {
	for _, s := range []string{" ", "  ", "   ", " a", "a ", " a ", "  a", "a  ", "a  b", "a b  c", "a  b c", "a   b", "band  thin", " band thin", "band thin "} {
		checkNoText(t, s)
	}
	for _, l := range [][]string{few("a"), few("a", "b", "c"), toldKnown(), many(19), many(20)} {
		s := toldWords(l)
		for i := range len(s) + 1 {
			atGap := i == 0 || i == len(s) || s[i-1] == ' ' || s[i] == ' '
			if atGap {
				checkNoText(t, s[:i]+" "+s[i:])
			}
			checkNoText(t, s[:i]+"  "+s[i:])
			checkAsTold(t, s[:i]+" "+s[i:])
		}
	}
}

// P10.1: another byte in the place of each space.
func TestGetOtherGaps(t *testing.T) {
	for _, l := range [][]string{few("a", "b"), few("a", "b", "c"), toldKnown(), many(20), few(strings.Repeat("a", 20), "b")} {
		s := toldWords(l)
		for i := range len(s) {
			if s[i] != ' ' {
				continue
			}
			for c := range 256 {
				if c != ' ' && !toldName.MatchString(string([]byte{byte(c)})) {
					checkNoText(t, s[:i]+string([]byte{byte(c)})+s[i+1:])
				}
			}
			for _, gap := range []string{"\t", "\n", "\r\n", "\u00a0", "\u2003", ", ", " \n", "\n ", "\x00", " \x00"} {
				checkNoText(t, s[:i]+gap+s[i+1:])
			}
		}
	}
	for _, more := range []string{"\n", "\t", "\x00", "\r", ",", "\u00a0"} {
		checkNoText(t, more)
		checkNoText(t, "band thin"+more)
		checkNoText(t, more+"band thin")
	}
}

// P10.1: every byte, at every place of texts.
func TestGetEveryByte(t *testing.T) {
	for _, l := range [][]string{few("m"), few("band", "thin"), few("a", "aa", "c"), few(strings.Repeat("m", 20), "n"), toldKnown(), many(20)} {
		s := toldWords(l)
		count := map[api.Errno]int{}
		for i := range len(s) {
			for c := range 256 {
				b := []byte(s)
				b[i] = byte(c)
				count[checkAsTold(t, string(b))]++
			}
		}
		if count[api.OK] < 25 || count[api.ErrForm] < 200 {
			t.Errorf("too few of one kind: %v", count)
		}
	}
}

// P10.1: all short texts of a few bytes.
func TestGetAllTexts(t *testing.T) {
	count := map[api.Errno]int{}
	allLists([]string{"a", "b", "-", " ", "A"}, 7, nil, func(l []string) {
		count[checkAsTold(t, strings.Join(l, ""))]++
	})
	if count[api.OK] < 3000 || count[api.ErrForm] < 50000 {
		t.Errorf("too few of one kind: %v", count)
	}
}

// P10.1: texts cut short anywhere, at either end.
func TestGetCutShort(t *testing.T) {
	for _, l := range [][]string{toldKnown(), many(20), few("a", "b")} {
		s := toldWords(l)
		for n := range len(s) + 1 {
			checkAsTold(t, s[:n])
			checkAsTold(t, s[n:])
		}
	}
}

// P10.1: 20 names, and more.
func TestGetEveryNumber(t *testing.T) {
	for n := range 60 {
		l := many(n)
		if n <= 20 {
			checkGet(t, toldWords(l), l, api.OK)
		} else {
			checkNoText(t, toldWords(l))
		}
	}
	checkNoText(t, toldWords(many(20))+" ")
	checkNoText(t, toldWords(many(20))+" x")
	checkNoText(t, toldWords(many(20))+" x y z")
	checkNoText(t, toldWords(many(20))+"  ")
	checkNoText(t, toldWords(many(19))+" x y")
}

// P10.1: very long texts.
func TestGetLong(t *testing.T) {
	checkNoText(t, strings.Repeat("a ", 500000))
	checkNoText(t, strings.Repeat(" ", 1000000))
	checkNoText(t, strings.Repeat("a", 1000000))
	checkNoText(t, "a "+strings.Repeat("b", 1000000))
	checkNoText(t, toldWords(many(10000)))
}

// P0: arguments stay as they are, behind their ends too, results are new, and nothing is kept.
func TestTextsKeepNothing(t *testing.T) {
	whole := few("a", "band", "thin", "x", "y")
	l := whole[:3] // there is room behind it, that is not its own
	wrong := few("thin", "band", "band", "A", "")
	for range 3 {
		checkPut(t, wrong, "", api.ErrArg)
		checkFine(t, wrong, false)
		checkNoText(t, "a band thin ")
		checkPut(t, l, "a band thin", api.OK)
		checkFine(t, l, true)
		got, e := Get("a band thin")
		if !slices.Equal(got, l) || e != api.OK {
			t.Fatalf("Get: %s, %d", shown(got), e)
		}
		clear(got[:cap(got)]) // no later result may have these
		if !slices.Equal(whole, few("a", "band", "thin", "x", "y")) || !slices.Equal(wrong, few("thin", "band", "band", "A", "")) {
			t.Fatalf("the lists were changed: %s, %s", shown(whole), shown(wrong))
		}
	}
}
