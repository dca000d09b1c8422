package band

import (
	"fmt"
	"math"
	"slices"
	"strings"
	"testing"

	"knapsack/api"
	"knapsack/pkt"
)

// shown are the first few lines of a list, as a failed test tells them.
func shown(l []pkt.Pkt) string {
	var b strings.Builder
	for _, p := range l[:min(len(l), 6)] {
		fmt.Fprintf(&b, "[%d %.20q %d]", p.Kind, p.Load, len(p.Load))
	}
	return b.String()
}

func checkPut(t *testing.T, channel int, s string, size int, want []pkt.Pkt, e api.Errno) {
	t.Helper()
	if l, ge := Put(channel, s, size); !slices.Equal(l, want) || ge != e {
		t.Errorf("Put(%d, %d bytes %.40q, %d): %d lines %s, %d, not %d lines %s, %d", channel, len(s), s, size, len(l), shown(l), ge, len(want), shown(want), e)
	}
}

func checkGet(t *testing.T, l []pkt.Pkt, data, report string, e api.Errno) {
	t.Helper()
	if gd, gr, ge := Get(l); gd != data || gr != report || ge != e {
		t.Errorf("Get of %d lines %s: %d bytes %.40q, %d bytes %.40q, %d, not %d bytes %.40q, %d bytes %.40q, %d", len(l), shown(l), len(gd), gd, len(gr), gr, ge, len(data), data, len(report), report, e)
	}
}

func checkPutAsTold(t *testing.T, channel int, s string, size int) {
	t.Helper()
	l, e := toldPut(channel, s, size)
	checkPut(t, channel, s, size, l, e)
}

func checkGetAsTold(t *testing.T, l []pkt.Pkt) api.Errno {
	t.Helper()
	data, report, e := toldGet(l)
	checkGet(t, l, data, report, e)
	return e
}

// put are the lines of a stream that may be put.
func put(t *testing.T, channel int, s string, size int) []pkt.Pkt {
	t.Helper()
	l, e := Put(channel, s, size)
	if e != api.OK {
		t.Fatalf("Put(%d, %d bytes, %d): %d", channel, len(s), size, e)
	}
	return l
}

// P8.1: streams of each channel, written out.
func TestPutWritten(t *testing.T) {
	x := strings.Repeat("x", 2000)
	for _, c := range []struct {
		channel int
		s       string
		size    int
		want    []string
	}{
		{1, "", 1, nil}, {2, "", 2, nil}, {3, "", 999, nil},
		{1, "a", 1, []string{"\x01a"}}, {2, "a", 2, []string{"\x02a"}}, {3, "a", 999, []string{"\x03a"}},
		{1, "abc", 2, []string{"\x01ab", "\x01c"}},
		{2, "abc", 1, []string{"\x02a", "\x02b", "\x02c"}},
		{3, "abc", 3, []string{"\x03abc"}},
		{1, "abc", 4, []string{"\x01abc"}},
		{1, "abcd", 2, []string{"\x01ab", "\x01cd"}},
		{2, "abcd", 3, []string{"\x02abc", "\x02d"}},
		{3, "abcde", 2, []string{"\x03ab", "\x03cd", "\x03e"}},
		{1, "abcdef", 2, []string{"\x01ab", "\x01cd", "\x01ef"}},
		{1, x[:998], 999, []string{"\x01" + x[:998]}},
		{2, x[:999], 999, []string{"\x02" + x[:999]}},
		{3, x[:1000], 999, []string{"\x03" + x[:999], "\x03x"}},
		{1, x[:1998], 999, []string{"\x01" + x[:999], "\x01" + x[:999]}},
		{1, x[:1999], 999, []string{"\x01" + x[:999], "\x01" + x[:999], "\x01x"}},
		{2, "\x01\x02\x03\x00", 1, []string{"\x02\x01", "\x02\x02", "\x02\x03", "\x02\x00"}},
		{1, "\x03\xff\xfe", 2, []string{"\x01\x03\xff", "\x01\xfe"}},
		{1, "\u20ac", 1, []string{"\x01\xe2", "\x01\x82", "\x01\xac"}},
		{3, "0006hi0000", 6, []string{"\x030006hi", "\x030000"}},
	} {
		checkPut(t, c.channel, c.s, c.size, lines(c.want...), api.OK)
	}
}

// P8.1: every size, with streams of no byte, of one, and of about one, two and three times the size.
func TestPutEverySize(t *testing.T) {
	whole := manyBytes(3000, 1)
	for size := 1; size <= 999; size++ {
		for channel := 1; channel <= 3; channel++ {
			for _, n := range []int{0, 1, size - 1, size, size + 1, 2*size - 1, 2 * size, 2*size + 1, 3 * size, 3*size + 1} {
				checkPutAsTold(t, channel, whole[:n], size)
			}
		}
	}
}

// P8.1: every length of a stream, with the sizes at the edges.
func TestPutEveryLength(t *testing.T) {
	whole := manyBytes(2100, 2)
	for n := range len(whole) {
		for _, size := range []int{1, 2, 3, 7, 500, 900, 998, 999} {
			checkPutAsTold(t, 1+n%3, whole[:n], size)
		}
	}
}

// P8.1: wrong channels and wrong sizes, also for an empty stream, and all of them together.
func TestPutWrong(t *testing.T) {
	channels := []int{0, 4, 5, -1, -2, -3, 255, 256, 257, 258, 259, -255, 1 << 32, 1<<32 + 1, math.MinInt, math.MaxInt}
	sizes := []int{0, 1000, 1001, -1, -2, -999, 2000, 65536, 65537, 1<<32 + 1, math.MinInt, math.MaxInt}
	for _, s := range []string{"", "a", "abc", strings.Repeat("x", 999), strings.Repeat("x", 1000), strings.Repeat("x", 3000)} {
		for _, channel := range channels {
			for _, size := range []int{1, 2, 500, 998, 999} {
				checkPut(t, channel, s, size, nil, api.ErrArg)
			}
		}
		for _, size := range sizes {
			for channel := 1; channel <= 3; channel++ {
				checkPut(t, channel, s, size, nil, api.ErrArg)
			}
			for _, channel := range channels {
				checkPut(t, channel, s, size, nil, api.ErrArg)
			}
		}
	}
}

// P8.1: all small numbers of channels and sizes.
func TestPutSmall(t *testing.T) {
	for channel := -3; channel <= 7; channel++ {
		for size := -3; size <= 12; size++ {
			for n := range 10 {
				checkPutAsTold(t, channel, "abcdefghij"[:n], size)
			}
		}
	}
}

// P8.1: what is put are lines that pkt takes.
func TestPutAreLines(t *testing.T) {
	whole := manyBytes(4000, 3)
	for _, size := range []int{1, 2, 250, 900, 998, 999} {
		for channel := 1; channel <= 3; channel++ {
			l := put(t, channel, whole, size)
			s, e := pkt.Put(l...)
			if e != api.OK {
				t.Fatalf("lines of %d bytes: %d", size, e)
			}
			if back, e := pkt.All(s); !slices.Equal(back, l) || e != api.OK {
				t.Errorf("lines of %d bytes are read as %s, %d", size, shown(back), e)
			}
		}
	}
}

// P8.2: lines written out.
func TestGetWritten(t *testing.T) {
	x := strings.Repeat("x", 999)
	for _, c := range []struct {
		loads        []string
		data, report string
	}{
		{nil, "", ""},
		{[]string{"\x01a"}, "a", ""},
		{[]string{"\x02a"}, "", "a"},
		{[]string{"\x01ab", "\x01c"}, "abc", ""},
		{[]string{"\x02ab", "\x02c"}, "", "abc"},
		{[]string{"\x01ab", "\x02c"}, "ab", "c"},
		{[]string{"\x02ab", "\x01c"}, "c", "ab"},
		{[]string{"\x01a", "\x02x", "\x01b", "\x02y", "\x01c"}, "abc", "xy"},
		{[]string{"\x02x", "\x02y", "\x01a", "\x01b", "\x02z"}, "ab", "xyz"},
		{[]string{"\x01b", "\x01a", "\x02y", "\x02x"}, "ba", "yx"},
		{[]string{"\x01a", "\x01a", "\x02a", "\x02a"}, "aa", "aa"},
		{[]string{"\x01" + x}, x, ""},
		{[]string{"\x02" + x, "\x01" + x, "\x02" + x}, x, x + x},
		{[]string{"\x01\x01", "\x01\x02", "\x01\x03", "\x02\x03no"}, "\x01\x02\x03", "\x03no"},
		{[]string{"\x02\x00", "\x01\xff\xfe", "\x02\x00"}, "\xff\xfe", "\x00\x00"},
		{[]string{"\x01\xe2", "\x02\x82", "\x01\x82", "\x01\xac"}, "\u20ac", "\x82"},
		{[]string{"\x010000", "\x020006hi"}, "0000", "0006hi"},
	} {
		checkGet(t, lines(c.loads...), c.data, c.report, api.OK)
	}
	checkGet(t, []pkt.Pkt{}, "", "", api.OK)
}

// P8.2: pieces of all kinds, of each channel.
func TestGetPieces(t *testing.T) {
	for _, a := range goodPieces() {
		checkGet(t, lines("\x01"+a), a, "", api.OK)
		checkGet(t, lines("\x02"+a), "", a, api.OK)
		checkGet(t, lines("\x03"+a), "", "", api.ErrRefused)
		for _, b := range goodPieces() {
			checkGet(t, lines("\x01"+a, "\x01"+b), a+b, "", api.OK)
			checkGet(t, lines("\x02"+a, "\x02"+b), "", a+b, api.OK)
			checkGet(t, lines("\x01"+a, "\x02"+b), a, b, api.OK)
			checkGet(t, lines("\x02"+a, "\x01"+b), b, a, api.OK)
			checkGet(t, lines("\x03"+a, "\x03"+b), "", "", api.ErrRefused)
		}
	}
}

// P8.2: every first byte of a payload, with no byte behind it, with one, and with as many as may be.
func TestGetEveryFirstByte(t *testing.T) {
	x := strings.Repeat("x", 1001)
	for c := range 256 {
		for _, n := range []int{0, 1, 2, 998, 999, 1000, 1001} {
			load := string([]byte{byte(c)}) + x[:n]
			good := n >= 1 && n <= 999
			switch {
			case good && c == 1:
				checkGet(t, lines(load), x[:n], "", api.OK)
			case good && c == 2:
				checkGet(t, lines(load), "", x[:n], api.OK)
			case good && c == 3:
				checkGet(t, lines(load), "", "", api.ErrRefused)
			default:
				checkGet(t, lines(load), "", "", api.ErrForm)
			}
		}
	}
}

// P8.2: every length of a payload, up to those that are too long.
func TestGetEveryLength(t *testing.T) {
	whole := manyBytes(1100, 4)
	for n := range len(whole) {
		l := lines("\x01"+whole[:n], "\x02"+whole[:n])
		if n >= 1 && n <= 999 {
			checkGet(t, l, whole[:n], whole[:n], api.OK)
			checkGet(t, append(l, lines("\x03"+whole[:n])...), "", "", api.ErrRefused)
		} else {
			checkGet(t, l[:1], "", "", api.ErrForm)
			checkGet(t, l[1:], "", "", api.ErrForm)
			checkGet(t, lines("\x03"+whole[:n]), "", "", api.ErrForm)
		}
	}
}

// P8.2: a line that is of no channel, alone, and at every place among others, of channel 3 too.
func TestGetWrong(t *testing.T) {
	among := [][]pkt.Pkt{
		nil,
		lines("\x01a"), lines("\x02a"), lines("\x03no"),
		lines("\x01a", "\x02b"), lines("\x03no", "\x01a"), lines("\x02a", "\x03no"),
		lines("\x03no", "\x03no"), lines("\x01a", "\x03no", "\x02b", "\x01c"),
	}
	for _, p := range wrongLines() {
		for _, l := range among {
			for i := range len(l) + 1 {
				checkGet(t, slices.Insert(slices.Clone(l), i, p), "", "", api.ErrForm)
			}
			checkGet(t, slices.Concat([]pkt.Pkt{p}, l, []pkt.Pkt{p}), "", "", api.ErrForm)
		}
	}
}

// P8.2: a line of channel 3, alone, and at every place among lines of the other channels.
func TestGetRefused(t *testing.T) {
	among := [][]pkt.Pkt{
		nil,
		lines("\x01a"), lines("\x02a"), lines("\x03no"),
		lines("\x01a", "\x02b"), lines("\x02a", "\x01b", "\x01c", "\x02d"), lines("\x01a", "\x01b", "\x01c"),
	}
	for _, piece := range goodPieces() {
		for _, l := range among {
			for i := range len(l) + 1 {
				checkGet(t, slices.Insert(slices.Clone(l), i, lines("\x03"+piece)...), "", "", api.ErrRefused)
			}
		}
	}
	for _, size := range []int{1, 2, 999} {
		checkGet(t, put(t, 3, "not now", size), "", "", api.ErrRefused)
	}
	checkGet(t, put(t, 3, "", 1), "", "", api.OK) // an empty reason has no lines
}

// P8.2: all short lists of lines of all channels, and of none.
func TestGetAllLists(t *testing.T) {
	of := append(lines("\x01a", "\x01\x03", "\x02b", "\x02\x01c", "\x03no", "\x04a", "\x01", ""), pkt.Pkt{Kind: pkt.Flush}, pkt.Pkt{Kind: pkt.Delim, Load: "\x01a"})
	count := map[api.Errno]int{}
	allLists(of, 5, nil, func(l []pkt.Pkt) {
		count[checkGetAsTold(t, l)]++
	})
	if count[api.OK] < 1000 || count[api.ErrForm] < 1000 || count[api.ErrRefused] < 1000 {
		t.Errorf("too few of one kind: %v", count)
	}
}

// P8.1, P8.2: Get returns the stream that was put, in the channel that it was put in.
func TestGetWhatWasPut(t *testing.T) {
	whole := manyBytes(3000, 6)
	for _, size := range []int{1, 2, 3, 10, 500, 900, 998, 999} {
		for _, n := range []int{0, 1, size - 1, size, size + 1, 2 * size, 2*size + 1, 3000} {
			s := whole[:n]
			checkGet(t, put(t, 1, s, size), s, "", api.OK)
			checkGet(t, put(t, 2, s, size), "", s, api.OK)
		}
	}
}

// P8.3: all interleavings of the lines of two short streams.
func TestEveryInterleaving(t *testing.T) {
	for _, c := range []struct {
		data, report string
		size         int
	}{
		{"", "", 1}, {"a", "", 1}, {"", "x", 1}, {"a", "x", 1}, {"abc", "x", 1}, {"a", "xyz", 2}, {"aaa", "aaa", 1},
		{"abcdefg", "tuvwxyz", 1}, {"abcdefghijk", "uvwxyz", 2}, {"\x02\x01\x03\x00", "\x01\x02\x03\xff", 1}, {"\x03\x03", "\x03\x03\x03", 1},
		{strings.Repeat("ab", 1000), strings.Repeat("xyz", 1000), 999},
	} {
		tried := 0
		interleavings(put(t, 1, c.data, c.size), put(t, 2, c.report, c.size), nil, func(l []pkt.Pkt) {
			tried++
			checkGet(t, l, c.data, c.report, api.OK)
		})
		if tried == 0 || len(c.data) == 7 && tried != 3432 { // 7 of 14
			t.Errorf("only %d were tried", tried)
		}
	}
}

// P8.3: some interleavings of the lines of two long streams, that are divided differently.
func TestSomeInterleavings(t *testing.T) {
	for seed := range uint64(400) {
		data, report := manyBytes(int(seed*37%5000), seed), manyBytes(int(seed*91%3000), seed+1)
		a := put(t, 1, data, int(1+seed*seed%999))
		b := put(t, 2, report, int(1+seed*13%999))
		l := someInterleaving(a, b, seed)
		checkGet(t, l, data, report, api.OK)
		refusal := put(t, 3, "no", 1)
		checkGet(t, someInterleaving(l, refusal, seed), "", "", api.ErrRefused)
		checkGet(t, someInterleaving(l, append(refusal, pkt.Pkt{Kind: pkt.Flush}), seed), "", "", api.ErrForm)
	}
}

// P8.1, P8.2, P8.3: many lines.
func TestMany(t *testing.T) {
	s := manyBytes(100000, 8)
	a, b := put(t, 1, s, 1), put(t, 2, s, 1)
	if len(a) != len(s) || len(b) != len(s) {
		t.Fatalf("%d and %d lines", len(a), len(b))
	}
	checkGet(t, slices.Concat(a, b), s, s, api.OK)
	checkGet(t, someInterleaving(a, b, 9), s, s, api.OK)
	checkGet(t, slices.Concat(a, b, lines("\x03no")), "", "", api.ErrRefused)
	checkGet(t, slices.Concat(lines("\x03no"), a, b, lines("")), "", "", api.ErrForm)
}

// P0: arguments stay as they are, results are new, and nothing is kept.
func TestNothingIsKept(t *testing.T) {
	l := lines("\x01a", "\x02x", "\x01b")
	before := slices.Clone(l)
	for range 3 {
		checkGet(t, l, "ab", "x", api.OK)
		checkGet(t, append(slices.Clone(l), lines("\x03no")...), "", "", api.ErrRefused)
		checkGet(t, append(slices.Clone(l), lines("")...), "", "", api.ErrForm)
		if !slices.Equal(l, before) {
			t.Fatalf("the lines were changed: %s", shown(l))
		}
		checkPut(t, 0, "ab", 1, nil, api.ErrArg)
		got := put(t, 1, "ab", 1)
		if !slices.Equal(got, lines("\x01a", "\x01b")) {
			t.Fatalf("Put: %s", shown(got))
		}
		got[0], got[1] = pkt.Pkt{Kind: 9}, pkt.Pkt{Load: "x"} // no later result may have these
	}
}
