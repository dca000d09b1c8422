package pkt

import (
	"fmt"
	"math"
	"slices"
	"strings"
	"testing"

	"knapsack/api"
)

// shown are the first few lines of a list, as a failed test tells them.
func shown(l []Pkt) string {
	var b strings.Builder
	for _, p := range l[:min(len(l), 5)] {
		fmt.Fprintf(&b, "[%d %.20q]", p.Kind, p.Load)
	}
	return b.String()
}

func checkPut(t *testing.T, l []Pkt, want string, e api.Errno) {
	t.Helper()
	if s, ge := Put(l...); s != want || ge != e {
		t.Errorf("Put of %d lines %s: %.60q (%d bytes), %d, not %.60q (%d bytes), %d", len(l), shown(l), s, len(s), ge, want, len(want), e)
	}
}

func checkGet(t *testing.T, s string, p Pkt, rest string, e api.Errno) {
	t.Helper()
	if gp, gr, ge := Get(s); gp != p || gr != rest || ge != e {
		t.Errorf("Get of %d bytes %.60q: %d %.40q, %.40q, %d, not %d %.40q, %.40q, %d", len(s), s, gp.Kind, gp.Load, gr, ge, p.Kind, p.Load, rest, e)
	}
}

func checkAll(t *testing.T, s string, l []Pkt, e api.Errno) {
	t.Helper()
	if gl, ge := All(s); !slices.Equal(gl, l) || ge != e {
		t.Errorf("All of %d bytes %.60q: %d lines %s, %d, not %d lines %s, %d", len(s), s, len(gl), shown(gl), ge, len(l), shown(l), e)
	}
}

// checkNoLine tries a string that begins with no line, alone and behind lines.
func checkNoLine(t *testing.T, s string) {
	t.Helper()
	checkGet(t, s, Pkt{}, "", api.ErrForm)
	if s == "" { // no lines at all
		return
	}
	checkAll(t, s, nil, api.ErrForm)
	for _, ahead := range []string{"0000", "0001", "0004", "0006hi", "0006hi0000"} {
		checkAll(t, ahead+s, nil, api.ErrForm)
	}
}

// checkAsTold tries any string on Get and All, and tells whether it begins with a line, and whether it is lines.
func checkAsTold(t *testing.T, w told, s string) (begins, whole bool) {
	t.Helper()
	p, rest, e := w.get(s)
	checkGet(t, s, p, rest, e)
	l, f := w.all(s)
	checkAll(t, s, l, f)
	return e == api.OK, f == api.OK
}

// P7.1: the kinds are numbered from 0, in the chapter's order.
func TestKinds(t *testing.T) {
	if Data != 0 || Flush != 1 || Delim != 2 {
		t.Errorf("kinds %d, %d, %d", Data, Flush, Delim)
	}
}

// P7.1, P7.2: lines written out.
func TestWritten(t *testing.T) {
	flush, delim := Pkt{Kind: Flush}, Pkt{Kind: Delim}
	full := strings.Repeat("x", 1000)
	for _, c := range []struct {
		lines []Pkt
		want  string
	}{
		{nil, ""},
		{[]Pkt{}, ""},
		{[]Pkt{{}}, "0004"},
		{[]Pkt{{Load: "a"}}, "0005a"},
		{[]Pkt{{Load: "hi"}}, "0006hi"},
		{[]Pkt{flush}, "0000"},
		{[]Pkt{delim}, "0001"},
		{[]Pkt{{Load: "hi"}, flush}, "0006hi0000"},
		{[]Pkt{flush, flush}, "00000000"},
		{[]Pkt{delim, delim}, "00010001"},
		{[]Pkt{{}, {}}, "00040004"},
		{[]Pkt{flush, delim, {}, {Load: "0"}, delim, flush}, "00000001000400050" + "00010000"},
		{[]Pkt{{Load: "12345"}}, "000912345"},
		{[]Pkt{{Load: "123456"}}, "000a123456"},
		{[]Pkt{{Load: "0123456789a"}}, "000f0123456789a"},
		{[]Pkt{{Load: "0123456789ab"}}, "00100123456789ab"},
		{[]Pkt{{Load: full[:251]}}, "00ff" + full[:251]},
		{[]Pkt{{Load: full[:252]}}, "0100" + full[:252]},
		{[]Pkt{{Load: full[:999]}}, "03eb" + full[:999]},
		{[]Pkt{{Load: full}}, "03ec" + full},
		{[]Pkt{{Load: full}, flush, {Load: full}}, "03ec" + full + "0000" + "03ec" + full},
		{[]Pkt{{Load: "0000"}}, "00080000"},
		{[]Pkt{{Load: "0006hi"}, {Load: "hi"}}, "000a0006hi0006hi"},
		{[]Pkt{{Load: "\x00\xff\n"}}, "0007\x00\xff\n"},
	} {
		checkPut(t, c.lines, c.want, api.OK)
		checkAll(t, c.want, c.lines, api.OK)
	}
}

// P7.1: every length of a payload, up to those that are too long.
func TestPutEveryLength(t *testing.T) {
	for n := range 1001 {
		load := manyBytes(n, uint64(n))
		checkPut(t, []Pkt{{Load: load}}, fmt.Sprintf("%04x", n+4)+load, api.OK)
	}
	for _, n := range []int{1001, 1002, 1003, 1004, 1005, 2000, 4096, 65531, 65532, 65535, 65536, 66536, 1 << 20} {
		checkPut(t, []Pkt{{Load: strings.Repeat("x", n)}}, "", api.ErrArg)
	}
}

// P7.1: wrong lines, alone, and ahead of, between and behind valid ones.
func TestPutWrong(t *testing.T) {
	long := strings.Repeat("x", 1001)
	wrong := []Pkt{
		{Kind: Data, Load: long},
		{Kind: Flush, Load: "x"}, {Kind: Flush, Load: "\x00"}, {Kind: Flush, Load: "0000"}, {Kind: Flush, Load: long},
		{Kind: Delim, Load: "x"}, {Kind: Delim, Load: "\x00"}, {Kind: Delim, Load: "0001"}, {Kind: Delim, Load: long},
	}
	for _, kind := range []int{-1, -2, -3, -256, 3, 4, 5, 256, 257, 258, 1 << 32, 1<<32 + 1, math.MinInt, math.MaxInt} {
		for _, load := range []string{"", "hi", long} {
			wrong = append(wrong, Pkt{Kind: kind, Load: load})
		}
	}
	for _, p := range wrong {
		checkPut(t, []Pkt{p}, "", api.ErrArg)
		for _, good := range []Pkt{{}, {Load: "hi"}, {Kind: Flush}, {Kind: Delim}} {
			checkPut(t, []Pkt{p, good}, "", api.ErrArg)
			checkPut(t, []Pkt{good, p}, "", api.ErrArg)
			checkPut(t, []Pkt{good, good, p, good}, "", api.ErrArg)
		}
		checkPut(t, []Pkt{p, p}, "", api.ErrArg)
	}
}

// P7.1: all lists of up to three lines out of valid and wrong ones.
func TestPutAsTold(t *testing.T) {
	l := append(edgeLines(), Pkt{Kind: 3}, Pkt{Kind: -1}, Pkt{Kind: Flush, Load: "x"}, Pkt{Kind: Delim, Load: "x"}, Pkt{Load: strings.Repeat("x", 1001)})
	for _, a := range l {
		for _, b := range l {
			for _, c := range l {
				whole := []Pkt{a, b, c}
				for n := range 4 {
					want, e := toldPut(whole[:n])
					checkPut(t, whole[:n], want, e)
				}
			}
		}
	}
}

// P7.1: the first line, and the bytes behind it, whatever they are.
func TestGetRest(t *testing.T) {
	rests := []string{"", "x", "0", "000", "0000", "0006hi", "0006h", "zzzz", "\x00", "\xff\xfe", "\n", strings.Repeat("0", 2000)}
	for _, p := range edgeLines() {
		s, ok := toldLine(p)
		if !ok {
			t.Fatalf("%d %.40q is not valid", p.Kind, p.Load)
		}
		for _, rest := range rests {
			checkGet(t, s+rest, p, rest, api.OK)
		}
	}
	checkGet(t, "0005abc", Pkt{Load: "a"}, "bc", api.OK)
	checkGet(t, "0004abc", Pkt{}, "abc", api.OK)
	checkGet(t, "0000abc", Pkt{Kind: Flush}, "abc", api.OK)
	checkGet(t, "0001abc", Pkt{Kind: Delim}, "abc", api.OK)
}

// P7.1: all four digits, with as many bytes as they give, one more, one fewer, none, and plenty.
func TestEveryNumber(t *testing.T) {
	plenty := strings.Repeat("0004", 1<<14+1)
	for n := range 1 << 16 {
		head := fmt.Sprintf("%04x", n)
		switch {
		case n == 0:
			checkGet(t, head, Pkt{Kind: Flush}, "", api.OK)
			checkGet(t, head+plenty, Pkt{Kind: Flush}, plenty, api.OK)
		case n == 1:
			checkGet(t, head, Pkt{Kind: Delim}, "", api.OK)
			checkGet(t, head+plenty, Pkt{Kind: Delim}, plenty, api.OK)
		case n >= 4 && n <= 1004:
			k := n - 4
			checkGet(t, head+plenty, Pkt{Load: plenty[:k]}, plenty[k:], api.OK)
			checkGet(t, head+plenty[:k], Pkt{Load: plenty[:k]}, "", api.OK)
			checkGet(t, head+plenty[:k+1], Pkt{Load: plenty[:k]}, plenty[k:k+1], api.OK)
			if k > 0 {
				checkNoLine(t, head)
				checkNoLine(t, head+plenty[:k-1])
			}
		default:
			checkGet(t, head, Pkt{}, "", api.ErrForm)
			checkGet(t, head+plenty, Pkt{}, "", api.ErrForm)
			checkGet(t, head+plenty[:max(n-4, 0)], Pkt{}, "", api.ErrForm)
		}
	}
}

// P7.1: the digits that the chapter's edges lie at.
func TestGetEdges(t *testing.T) {
	x := strings.Repeat("x", 1100)
	for _, s := range []string{"0002", "0003", "0002x", "0003x", "0002" + x, "0003" + x, "00020000", "00030000",
		"03ed", "03ed" + x[:1000], "03ed" + x[:1001], "03ed" + x, "03ee" + x, "0400" + x, "ffff" + x, "ffff",
		"03ec", "03ec" + x[:999], "0005", "0006h", "000a12345", "0014" + x[:15]} {
		checkNoLine(t, s)
	}
	checkGet(t, "03ec"+x[:1000], Pkt{Load: x[:1000]}, "", api.OK)
	checkGet(t, "03ec"+x, Pkt{Load: x[:1000]}, x[1000:], api.OK)
}

// P7.1: digits that are cut off, or are none.
func TestGetWrongDigits(t *testing.T) {
	checkNoLine(t, "")
	for _, s := range []string{"0", "00", "000", "a", "ff", "03e", "x", "\x00", "000A", "000A123456", "000Aabcdef",
		"000F0123456789a", "03EC", "03Ec", "03eC", "00FF", "00 4", "   4", " 004", "004 ", "+004", "-001", "-000", "+000", "0x04", "0X04", "0b00",
		"00_4", "0_04", "000g", "000`", "000/", "000:", "000@", "000G", "00.4", "4", "04", "004", "0o04",
		"\x00\x00\x00\x04", "\x00\x00\x00\x00", "000\x00", "000\xb0", "\uff10\uff10\uff10\uff10", "\n0000", "\r\n", "hi"} {
		checkNoLine(t, s)
		if len(s) >= 4 {
			checkNoLine(t, s+"\n")
		}
	}
	for _, s := range []string{"000A", "03EC", "00FF", "-004", "+004", "0x04", " 004", "00_4"} {
		checkNoLine(t, s+strings.Repeat("0", 2000))
	}
}

// P7.1: every byte at every place of the digits.
func TestEveryByte(t *testing.T) {
	w := newTold()
	for _, s := range []string{"0000", "0001", "0004", "0005a", "0006hi", "000a012345", "03ec" + strings.Repeat("0", 1000), "0000" + strings.Repeat("0", 1100), "0006hi0000"} {
		for i := range min(len(s), 8) {
			b := []byte(s)
			for c := range 256 {
				b[i] = byte(c)
				checkAsTold(t, w, string(b))
			}
		}
	}
}

// P7.1: all pairs of bytes as the last two digits.
func TestEveryTwoBytes(t *testing.T) {
	w := newTold()
	for a := range 256 {
		for b := range 256 {
			checkAsTold(t, w, "00"+string([]byte{byte(a), byte(b)})+"0000")
		}
	}
}

// P7.1: all short strings of digits, some of which are lines.
func TestAllShort(t *testing.T) {
	w := newTold()
	begin, whole := 0, 0
	try := func(s string) {
		a, b := checkAsTold(t, w, s)
		if a {
			begin++
		}
		if b {
			whole++
		}
	}
	allStrings("0145", 8, try)
	allStrings("01", 12, try)
	allStrings("03ceE", 6, try)
	if begin < 1000 || whole < 30 {
		t.Errorf("only %d begin with a line, and %d are lines", begin, whole)
	}
}

// P7.1: lines that are cut off anywhere: only between two of them are there lines.
func TestCutOff(t *testing.T) {
	l := []Pkt{{Load: "hi"}, {Kind: Flush}, {}, {Load: "00000000"}, {Kind: Delim}, {Load: strings.Repeat("0", 300)}, {Kind: Flush}}
	whole := map[int]int{0: 0} // of a number of bytes, how many lines they are
	s := ""
	for i, p := range l {
		line, _ := toldLine(p)
		s += line
		whole[len(s)] = i + 1
	}
	for n := range len(s) + 1 {
		if count, ok := whole[n]; ok {
			checkAll(t, s[:n], l[:count], api.OK)
		} else {
			checkAll(t, s[:n], nil, api.ErrForm)
		}
	}
}

// P7.1: something behind the last line that is no line.
func TestAllWithMore(t *testing.T) {
	w := newTold()
	for _, p := range edgeLines() {
		s, _ := toldLine(p)
		for _, more := range []string{"x", "0", "00", "000", "0002", "0003", "0005", "0006h", "000A012345", "\n", "\x00", "03ed" + strings.Repeat("x", 1001), " 0000"} {
			checkAll(t, s+more, nil, api.ErrForm)
			checkAll(t, s+s+more, nil, api.ErrForm)
			// behind these the same bytes may be of another line
			checkAsTold(t, w, s+more+s)
			checkAsTold(t, w, more+s)
		}
		checkAll(t, s+"0000", []Pkt{p, {Kind: Flush}}, api.OK)
	}
	checkAll(t, "", nil, api.OK)
}

// P7.2: Get and All return what was put.
func TestGetWhatWasPut(t *testing.T) {
	for seed := range uint64(300) {
		l := someLines(int(seed%40), seed)
		s, e := Put(l...)
		if e != api.OK {
			t.Fatalf("Put of %d lines: %d", len(l), e)
		}
		checkAll(t, s, l, api.OK)
		rest := s
		for _, p := range l {
			line, _ := toldLine(p)
			after, ok := strings.CutPrefix(rest, line)
			if !ok {
				t.Fatalf("not put: %.40q, but %.40q", line, rest)
			}
			checkGet(t, rest, p, after, api.OK)
			rest = after
		}
		if rest != "" {
			t.Errorf("behind the lines: %.40q", rest)
		}
	}
}

// P7.2: every list of two lines is itself again.
func TestPairs(t *testing.T) {
	for _, a := range edgeLines() {
		for _, b := range edgeLines() {
			one, e := Put(a)
			two, f := Put(b)
			both, g := Put(a, b)
			if e != api.OK || f != api.OK || g != api.OK || both != one+two {
				t.Errorf("Put of two lines: %.40q, %d, %d, %d", both, e, f, g)
			}
			checkGet(t, both, a, two, api.OK)
			checkAll(t, both, []Pkt{a, b}, api.OK)
		}
	}
}

// P7.2: what is read as lines is put as the same bytes.
func TestPutWhatIsRead(t *testing.T) {
	read := 0
	allStrings("0145", 8, func(s string) {
		if l, e := All(s); e == api.OK {
			read++
			checkPut(t, l, s, api.OK)
		}
		if p, rest, e := Get(s); e == api.OK {
			checkPut(t, []Pkt{p}, strings.TrimSuffix(s, rest), api.OK)
		}
	})
	if read < 10 {
		t.Errorf("only %d were read", read)
	}
}

// P7.1, P7.2: many lines.
func TestMany(t *testing.T) {
	l := slices.Repeat([]Pkt{{Kind: Flush}, {Load: "0000"}, {Kind: Delim}, {}}, 20000)
	s := strings.Repeat("0000"+"00080000"+"0001"+"0004", 20000)
	checkPut(t, l, s, api.OK)
	checkAll(t, s, l, api.OK)
	checkAll(t, s+"000", nil, api.ErrForm)
}

// P0: arguments stay as they are, results are new, and nothing is kept.
func TestNothingIsKept(t *testing.T) {
	l := []Pkt{{Load: "hi"}, {Kind: Delim}, {Kind: Flush}}
	before := slices.Clone(l)
	for range 3 {
		checkPut(t, l, "0006hi00010000", api.OK)
		checkPut(t, append(slices.Clone(l), Pkt{Kind: 3}), "", api.ErrArg)
		if !slices.Equal(l, before) {
			t.Fatalf("the lines were changed: %s", shown(l))
		}
		got, e := All("0006hi00010000")
		if !slices.Equal(got, before) || e != api.OK {
			t.Fatalf("All: %s, %d", shown(got), e)
		}
		got[0], got[2] = Pkt{Kind: 9}, Pkt{Load: "x"} // no later result may have these
		checkGet(t, "000", Pkt{}, "", api.ErrForm)
		checkGet(t, "0006hi", Pkt{Load: "hi"}, "", api.OK)
	}
}
