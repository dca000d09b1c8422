package lz

import (
	"math"
	"strings"
	"testing"

	"knapsack/api"
)

func checkUnpack(t *testing.T, s string, most int, want string, e api.Errno) {
	t.Helper()
	if u, f := Unpack(s, most); u != want || f != e {
		t.Errorf("Unpack of %d bytes %.60q, most %d: %d bytes %.60q, %d, not %d bytes %.60q, %d", len(s), s, most, len(u), u, f, len(want), want, e)
	}
}

// checkJust tries an output with just as many bytes as are permitted, and with one more.
func checkJust(t *testing.T, s string, want string) {
	t.Helper()
	checkUnpack(t, s, len(want), want, api.OK)
	checkUnpack(t, s, len(want)+1, want, api.OK)
	checkUnpack(t, s, math.MaxInt, want, api.OK)
	if want != "" {
		checkUnpack(t, s, len(want)-1, "", api.ErrLimit)
		checkUnpack(t, s, 0, "", api.ErrLimit)
	}
	checkUnpack(t, s, -1, "", api.ErrArg)
}

// checkAsTold holds Unpack against the chapter's words.
func checkAsTold(t *testing.T, s string, most int) api.Errno {
	t.Helper()
	u, e := toldUnpack(s, most)
	checkUnpack(t, s, most, u, e)
	return e
}

// checkPack holds what Pack returns against Unpack, and against the chapter's words.
func checkPack(t *testing.T, s string) string {
	t.Helper()
	p := Pack(s)
	if len(p) > len(s)+1 {
		t.Errorf("Pack of %d bytes %.60q: %d bytes", len(s), s, len(p))
	}
	if u, e := toldUnpack(p, len(s)); u != s || e != api.OK {
		t.Errorf("Pack of %d bytes %.60q: %.60q, which is %.60q, %d", len(s), s, p, u, e)
	}
	checkJust(t, p, s)
	if again := Pack(s); again != p {
		t.Errorf("Pack of %d bytes %.60q: %.60q, then %.60q", len(s), s, p, again)
	}
	return p
}

// P5.1: packed strings byte by byte.
func TestUnpackWritten(t *testing.T) {
	for _, c := range []struct{ s, want string }{
		{"\x00", ""},
		{"\x00a", "a"},
		{"\x00\x00", "\x00"},
		{"\x00\x01\x02a", "\x01\x02a"},
		{"\x01", ""},
		{"\x01\x02a", "a"},
		{"\x01\x02a\x02b\x04cd", "abcd"},
		{"\x01\x02a\x0b\x01", "aaaaaa"},
		{"\x01\x04ab\x09\x02", "ababab"},
		{"\x01\x04ab\x09\x01", "abbbbb"},
		{"\x01\x06abc\x0d\x02\x02d", "abcbcbcbcd"},
		{"\x01\x0aabcde\x09\x05\x09\x09", "abcdeabcdabcd"},
		{"\x01\x02a\x09\x01\x02b\x09\x06\x09\x02", "aaaaabaaaaaaaa"},
		{"\x01\x02a\x81\x01\x01", "a" + strings.Repeat("a", 64)},
		{"\x01\x02\x00\xd9\x04\x01", "\x00" + strings.Repeat("\x00", 300)},
		{"\x01\x80\x01" + strings.Repeat("b", 64), strings.Repeat("b", 64)},
	} {
		checkJust(t, c.s, c.want)
	}
}

// P5.1: a most below 0 comes before every other error.
func TestUnpackBelowZero(t *testing.T) {
	for _, s := range []string{"", "\x00", "\x00a", "\x01", "\x01\x02a", "\x01\x00", "\x01\x80", "\x02", "\xff", "\x01\x02a\x0b\x01"} {
		for _, most := range []int{-1, -2, -4096, math.MinInt32, math.MinInt + 1, math.MinInt} {
			checkUnpack(t, s, most, "", api.ErrArg)
		}
	}
}

// P5.1: with most 0 there is an output of no byte only.
func TestUnpackZero(t *testing.T) {
	checkUnpack(t, "\x00", 0, "", api.OK)
	checkUnpack(t, "\x01", 0, "", api.OK)
	checkUnpack(t, "\x00a", 0, "", api.ErrLimit)
	checkUnpack(t, "\x01\x02a", 0, "", api.ErrLimit)
	checkUnpack(t, "\x01\x02a\x00", 0, "", api.ErrLimit)
	for _, s := range []string{"", "\x02", "\x02a", "\x01\x00", "\x01\x02", "\x01\x09", "\x01\x09\x01", "\x01\x80"} {
		checkUnpack(t, s, 0, "", api.ErrForm)
	}
}

// P5.1: every format byte, and none.
func TestFormats(t *testing.T) {
	for _, most := range []int{0, 1, 2, 3, 100, math.MaxInt} {
		checkUnpack(t, "", most, "", api.ErrForm)
		for x := 2; x < 256; x++ {
			for _, data := range []string{"", "a", "\x02a", "\x00", strings.Repeat("a", 200)} {
				checkUnpack(t, string([]byte{byte(x)})+data, most, "", api.ErrForm)
			}
		}
	}
	checkUnpack(t, "\x00\x02a", 9, "\x02a", api.OK)
	checkUnpack(t, "\x01\x02a", 9, "a", api.OK)
}

// P5.1: format 0 is the string itself, whatever its bytes.
func TestStored(t *testing.T) {
	for n := range 400 {
		s := manyBytes(n, uint64(n))
		checkJust(t, "\x00"+s, s)
	}
	for _, n := range []int{4095, 4096, 4097, 65535, 65536, 65537, 1 << 18} {
		s := manyBytes(n, uint64(n))
		checkJust(t, "\x00"+s, s)
	}
	for x := range 256 {
		s := string([]byte{byte(x)})
		checkJust(t, "\x00"+s, s)
		checkJust(t, "\x00"+s+s+s, s+s+s)
	}
}

// P5.1: literals of 0 bytes, of 1 and more, and those that lack bytes.
func TestLiterals(t *testing.T) {
	for n := 1; n < 300; n++ {
		text := manyBytes(n, uint64(n))
		checkJust(t, bySteps(literal(text)), text)
		checkJust(t, bySteps(literal("x"), literal(text), literal("y")), "x"+text+"y")
		cut := literal(text)[:len(literal(text))-1]
		for _, most := range []int{0, n - 1, n, n + 1, math.MaxInt} {
			checkUnpack(t, bySteps(cut), most, "", api.ErrForm)
		}
	}
	for _, n := range []int{8191, 8192, 65536, 1 << 18} {
		text := manyBytes(n, uint64(n))
		checkJust(t, bySteps(literal(text)), text)
	}
	for _, s := range []string{bySteps(literal("")), bySteps(literal(""), literal("a")), bySteps(literal("a"), literal("")), bySteps(literal("a"), literal(""), match(4, 1))} {
		checkUnpack(t, s, 9, "", api.ErrForm)
	}
}

// P5.1: matches of Least bytes, of fewer, and of more.
func TestMatchLengths(t *testing.T) {
	if Least != 4 || MaxFar != 65535 {
		t.Errorf("Least %d, MaxFar %d", Least, MaxFar)
	}
	for n := range uint64(300) {
		s := bySteps(literal("abc"), match(n, 1))
		if n < 4 {
			for _, most := range []int{0, 3, 9, math.MaxInt} {
				want := api.ErrForm
				if most < 3 {
					want = api.ErrLimit
				}
				checkUnpack(t, s, most, "", want)
			}
			continue
		}
		checkJust(t, s, "abc"+strings.Repeat("c", int(n)))
	}
	for _, n := range []int{8190, 8191, 8192, 1 << 20} {
		checkJust(t, bySteps(literal("z"), match(uint64(n), 1)), strings.Repeat("z", n+1))
	}
}

// P5.1: distances of 0, of 1, of just the output's length, and of one more.
func TestDistances(t *testing.T) {
	for n := 1; n < 150; n++ {
		text := manyBytes(n, uint64(n))
		for far := range uint64(n + 3) {
			s := bySteps(literal(text), match(5, far))
			e := checkAsTold(t, s, n+5)
			if permitted := far >= 1 && far <= uint64(n); permitted != (e == api.OK) {
				t.Errorf("distance %d of %d: %d", far, n, e)
			}
			if far == 0 || far > uint64(n) {
				checkUnpack(t, s, n+4, "", api.ErrForm)
				checkUnpack(t, s, math.MaxInt, "", api.ErrForm)
			}
		}
	}
	for _, far := range []uint64{1, 2, 3} {
		checkUnpack(t, bySteps(match(4, far)), 9, "", api.ErrForm)
	}
	for _, far := range []uint64{4, 1 << 16, 1<<16 + 1, 1<<32 + 1, math.MaxInt64, 1 << 63, 1<<63 + 1, math.MaxUint64} {
		checkUnpack(t, bySteps(match(4, far)), 9, "", api.ErrForm)
		checkUnpack(t, bySteps(literal("abc"), match(4, far)), 9, "", api.ErrForm)
	}
}

// P5.1: distances of MaxFar and of MaxFar + 1, of shorter and of longer outputs.
func TestFarDistances(t *testing.T) {
	for _, n := range []int{65533, 65534, 65535, 65536, 65537, 70000, 131072, 140000} {
		text := manyBytes(n, uint64(n))
		for _, far := range []int{65533, 65534, 65535, 65536, 65537, 65536 + 1000, 131071, 131072} {
			s := bySteps(literal(text), match(6, uint64(far)))
			if far > n || far > 65535 {
				checkUnpack(t, s, n+6, "", api.ErrForm)
				checkUnpack(t, s, n+5, "", api.ErrForm)
				continue
			}
			checkJust(t, s, text+(text + text)[n-far:n-far+6])
		}
	}
	// the output counts, whichever steps have made it
	checkJust(t, bySteps(literal("ab"), match(65533, 1), match(4, 65535)), "a"+strings.Repeat("b", 65534)+"abbb")
	checkUnpack(t, bySteps(literal("ab"), match(65534, 1), match(4, 65536)), 1<<20, "", api.ErrForm)
	checkUnpack(t, bySteps(literal("ab"), match(65532, 1), match(4, 65535)), 1<<20, "", api.ErrForm)
}

// P5.1: a match may overlap what it produces.
func TestOverlaps(t *testing.T) {
	for far := 1; far <= 20; far++ {
		text := manyBytes(23, uint64(far))
		for n := 4; n < 70; n++ {
			want := []byte(text)
			for range n {
				want = append(want, want[len(want)-far])
			}
			checkJust(t, bySteps(literal(text), match(uint64(n), uint64(far))), string(want))
			checkJust(t, bySteps(literal(text), match(uint64(n), uint64(far)), match(4, 1)), string(want)+strings.Repeat(string(want[len(want)-1:]), 4))
		}
	}
}

// P5.1: the first error in the order of the steps, and of one step ErrForm ahead of ErrLimit.
func TestErrorOrder(t *testing.T) {
	noForm := []string{"\x00", "\x01", "\x01\x01", "\x07\x01", "\x09", "\x09\x00", "\x09\x80", "\x80", "\x80\x00", "\x82\x00a", "\x09\x81\x00", "\x14abc", match(4, 100), match(100, 0), match(3, 1), match(100, 65536)}
	for _, bad := range noForm {
		good := bySteps(literal("abc"), match(4, 2))
		for _, most := range []int{7, 8, 9, math.MaxInt} {
			checkUnpack(t, good+bad, most, "", api.ErrForm)
		}
		for most := range 7 {
			checkUnpack(t, good+bad, most, "", api.ErrLimit)
		}
		checkAsTold(t, bySteps(bad, literal("abcdefghijklm")), 9)
	}
	for _, long := range []string{literal("abcd"), match(7, 1), match(1<<40, 3), match(math.MaxInt64, 1)} {
		checkUnpack(t, bySteps(literal("abc"), long), 6, "", api.ErrLimit)
		checkUnpack(t, bySteps(literal("abc"), long, "\x00"), 6, "", api.ErrLimit)
		checkUnpack(t, bySteps(literal("abc"), "\x00", long), 6, "", api.ErrForm)
	}
}

// P5.1: steps that are cut off at every place, and that go on.
func TestCutOff(t *testing.T) {
	whole := bySteps(literal("abcdefgh"), match(300, 7), literal(manyBytes(200, 1)), match(4, 508), match(64, 200), literal("end"))
	if e := checkAsTold(t, whole, 8+300+200+4+64+3); e != api.OK {
		t.Errorf("the whole: %d", e)
	}
	right := 0
	for n := range len(whole) {
		if checkAsTold(t, whole[:n], 1000) == api.OK {
			right++
		}
		checkAsTold(t, whole[:n], 300)
	}
	if right != 6 {
		t.Errorf("%d beginnings that consist of whole steps", right)
	}
	for x := range 256 {
		checkAsTold(t, whole+string([]byte{byte(x)}), 1000)
		checkAsTold(t, whole+string([]byte{byte(x), 'a'}), 1000)
	}
}

// P5.1: every other byte at every place.
func TestEveryByte(t *testing.T) {
	for _, s := range []string{
		bySteps(literal("ab"), match(5, 2), literal("c"), match(4, 8)),
		bySteps(literal("a"), match(200, 1), match(4, 150), literal("x")),
		"\x00abc",
	} {
		for i := range len(s) {
			for x := range 256 {
				b := []byte(s)
				b[i] = byte(x)
				for _, most := range []int{0, 1, 11, 12, 300, 1 << 20} {
					checkAsTold(t, string(b), most)
				}
			}
		}
	}
}

// P5.1: all short strings of telling bytes.
func TestAllShortSteps(t *testing.T) {
	seen := map[api.Errno]int{}
	allStrings("\x00\x01\x02\x04\x07\x09\x0b\x80\x81", 5, func(s string) {
		for _, most := range []int{0, 1, 6} {
			seen[checkAsTold(t, "\x01"+s, most)]++
		}
	})
	if seen[api.OK] < 100 || seen[api.ErrForm] < 100 || seen[api.ErrLimit] < 100 {
		t.Errorf("%v", seen)
	}
}

// P5.1: numbers that are written too long, that have no end, or that are too great.
func TestNumbers(t *testing.T) {
	for _, n := range []string{"\x82\x00", "\x82\x80\x00", "\x89\x00\x01", "\x09\x81\x00", "\x09\x81\x80\x00", "\x80", "\xff\xff", strings.Repeat("\x80", 9) + "\x02", strings.Repeat("\xff", 10), strings.Repeat("\x80", 10) + "\x01", "\x09" + strings.Repeat("\xff", 9) + "\x02"} {
		for _, most := range []int{1, 9, math.MaxInt} {
			checkUnpack(t, bySteps(literal("a"), n), most, "", api.ErrForm)
			checkUnpack(t, bySteps(literal("a"), n+"abcd"), most, "", api.ErrForm)
		}
	}
}

// P5.1: the greatest numbers: what would pass most is ErrLimit, and a later step's ErrForm is found without that many bytes.
func TestGreatest(t *testing.T) {
	one := literal("a")
	for _, count := range []uint64{1 << 31, 1 << 32, 1<<32 + 4, 1 << 40, 1 << 62, math.MaxInt64 - 1, math.MaxInt64} {
		checkUnpack(t, bySteps(one, match(count, 1)), 9, "", api.ErrLimit)
		checkUnpack(t, bySteps(one, match(count, 1), "\x00"), 9, "", api.ErrLimit)
		checkUnpack(t, bySteps(one, match(count, 2)), 9, "", api.ErrForm)
		checkUnpack(t, bySteps(one, match(count, 1)), int(count), "", api.ErrLimit)
		checkUnpack(t, bySteps(one, number(2*count)), 9, "", api.ErrForm)
		checkUnpack(t, bySteps(one, number(2*count)+"abc"), math.MaxInt, "", api.ErrForm)
	}
	for _, count := range []uint64{1 << 40, 1 << 62, math.MaxInt64 - 1} {
		checkUnpack(t, bySteps(one, match(count, 1), "\x00"), math.MaxInt, "", api.ErrForm)
		checkUnpack(t, bySteps(one, match(count, 1), match(4, 65536)), math.MaxInt, "", api.ErrForm)
		checkUnpack(t, bySteps(one, match(count, 1), match(math.MaxInt64, 65535)), math.MaxInt, "", api.ErrLimit)
	}
	checkUnpack(t, bySteps(one, match(math.MaxInt64-1, 1), one), math.MaxInt, "", api.ErrLimit)
	checkUnpack(t, bySteps(one, match(math.MaxInt64, 1)), math.MaxInt, "", api.ErrLimit)
	checkUnpack(t, bySteps(one, number(math.MaxUint64)+"\x01"), math.MaxInt, "", api.ErrLimit)
	checkUnpack(t, bySteps(number(math.MaxUint64)+"\x01"), math.MaxInt, "", api.ErrForm)
}

// P0, R1: of an output beyond the bound of the document nothing is promised, but the call ends without a panic.
func TestBeyondTheBound(t *testing.T) {
	for _, count := range []uint64{math.MaxInt32, 1 << 40, math.MaxInt64 - 1} {
		if u, e := Unpack(bySteps(literal("a"), match(count, 1)), math.MaxInt); u != "" || e == api.OK {
			t.Errorf("match of %d: %d bytes, %d", count, len(u), e)
		}
	}
}

// P5.1: steps without a pattern, held against the chapter's words.
func TestUnpackAsTold(t *testing.T) {
	seen := map[api.Errno]int{}
	for i := range uint64(3000) {
		choice := manyBytes(40, i)
		s, made := "\x01", 0
		for k := 0; k+3 < len(choice); k += 4 {
			n := int(choice[k+1]%40) + 1
			if choice[k]%3 > 0 && made > 0 {
				far := int(choice[k+2])%(made+1) + int(choice[k+3]%64)/63
				n += 3
				s += match(uint64(n), uint64(far))
			} else {
				s += literal(manyBytes(n, i+uint64(k)))
			}
			made += n
		}
		for _, most := range []int{made - 1, made, made / 2} {
			seen[checkAsTold(t, s, most)]++
		}
	}
	if seen[api.OK] < 100 || seen[api.ErrForm] < 100 || seen[api.ErrLimit] < 100 {
		t.Errorf("%v", seen)
	}
}
