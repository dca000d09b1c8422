package delta

import (
	"math"
	"strings"
	"testing"

	"knapsack/api"
)

func checkApply(t *testing.T, base, d string, most int, want string, e api.Errno) {
	t.Helper()
	if s, f := Apply(base, d, most); s != want || f != e {
		t.Errorf("Apply to %d bytes %.40q of %d bytes %.60q, most %d: %d bytes %.60q, %d, not %d bytes %.60q, %d", len(base), base, len(d), d, most, len(s), s, f, len(want), want, e)
	}
}

func checkSize(t *testing.T, d string, want int, e api.Errno) {
	t.Helper()
	if n, f := Size(d); n != want || f != e {
		t.Errorf("Size of %d bytes %.60q: %d, %d, not %d, %d", len(d), d, n, f, want, e)
	}
}

// checkJust tries a target with just as many bytes as are permitted, and with one more, and other bases than its own.
func checkJust(t *testing.T, base, d string, want string) {
	t.Helper()
	checkSize(t, d, len(want), api.OK)
	checkApply(t, base, d, len(want), want, api.OK)
	checkApply(t, base, d, len(want)+1, want, api.OK)
	checkApply(t, base, d, math.MaxInt, want, api.OK)
	if want != "" {
		checkApply(t, base, d, len(want)-1, "", api.ErrLimit)
		checkApply(t, base, d, 0, "", api.ErrLimit)
	}
	checkApply(t, base, d, -1, "", api.ErrArg)
	checkApply(t, base+"x", d, len(want), "", api.ErrBase)
	if base != "" {
		checkApply(t, base[1:], d, len(want), "", api.ErrBase)
	}
}

// checkAsTold holds Apply and Size against the chapter's words.
func checkAsTold(t *testing.T, base, d string, most int) api.Errno {
	t.Helper()
	s, e := toldApply(base, d, most)
	checkApply(t, base, d, most, s, e)
	n, f := toldSize(d)
	checkSize(t, d, n, f)
	return e
}

// P6.1: deltas byte by byte, of literals, of copies and of both.
func TestApplyWritten(t *testing.T) {
	long := manyBytes(1000, 1)
	for _, c := range []struct{ base, d, want string }{
		{"", "\x00\x00", ""},
		{"a", "\x01\x00", ""},
		{"abcdef", "\x06\x00", ""},
		{"", "\x00\x01\x02x", "x"},
		{"abcdef", "\x06\x01\x02x", "x"},
		{"abcdef", "\x06\x03\x02x\x04yz", "xyz"},
		{"abcdef", "\x06\x01\x03\x00", "a"},
		{"abcdef", "\x06\x01\x03\x05", "f"},
		{"abcdef", "\x06\x06\x0d\x00", "abcdef"},
		{"abcdef", "\x06\x0c\x0d\x00\x0d\x00", "abcdefabcdef"},
		{"abcdef", "\x06\x06\x07\x03\x07\x00", "defabc"},
		{"abcdef", "\x06\x05\x07\x01\x04xy", "bcdxy"},
		{"abcdef", "\x06\x05\x04xy\x07\x01", "xybcd"},
		{"abcdef", "\x06\x07\x02x\x05\x00\x04yz\x05\x04", "xabyzef"},
		{"a", "\x01\x03\x03\x00\x03\x00\x03\x00", "aaa"},
		{"\x00\xff", "\x02\x04\x05\x00\x04\xff\x00", "\x00\xff\xff\x00"},
		{long, "\xe8\x07\x40\x81\x01\xac\x02", long[300:364]},
		{long, "\xe8\x07\xe8\x07\xd1\x0f\x00", long},
		{long, "\xe8\x07\x41\x80\x01" + long[:64] + "\x03\xe7\x07", long[:64] + long[999:]},
	} {
		checkJust(t, c.base, c.d, c.want)
	}
}

// P6.1: a most below 0 comes before every other error.
func TestApplyBelowZero(t *testing.T) {
	for _, d := range []string{"", "\x03", "\x80", "\x03\x80", "\x03\x00", "\x03\x03\x07\x00", "\x02\x00", "\x04\x03\x07\x00", "\x03\x01", "\x03\x01\x00", "\x04\x00\x00"} {
		for _, most := range []int{-1, -2, -4096, math.MinInt32, math.MinInt + 1, math.MinInt} {
			checkApply(t, "abc", d, most, "", api.ErrArg)
		}
	}
}

// P6.1: with most 0 there is a target of no byte only.
func TestApplyZero(t *testing.T) {
	checkApply(t, "", "\x00\x00", 0, "", api.OK)
	checkApply(t, "abc", "\x03\x00", 0, "", api.OK)
	checkApply(t, "abc", "\x03\x01\x02x", 0, "", api.ErrLimit)
	checkApply(t, "abc", "\x03\x01\x03\x00", 0, "", api.ErrLimit)
	checkApply(t, "abc", "\x03\x01", 0, "", api.ErrLimit)
	for _, d := range []string{"", "\x03", "\x80", "\x03\x80", "\x03\x00\x00", "\x03\x00\x01\x00", "\x03\x00\x02x", "\x03\x00\x03\x00", "\x03\x00\x80", "\x03\x00\x02"} {
		checkApply(t, "abc", d, 0, "", api.ErrForm)
	}
}

// P6.1: what does not begin with two numbers, for Apply and for Size.
func TestWithoutNumbers(t *testing.T) {
	long := strings.Repeat("\xff", 9)
	first := []string{"", "\x80", "\x83", "\xff\xff", "\x83\x00", "\x83\x80\x00", long, long + "\x02", long + "\x81", long + "\xff\x01", strings.Repeat("\x80", 9) + "\x00"}
	for _, bad := range first {
		for _, d := range []string{bad, "\x03" + bad, "\x04" + bad, number(math.MaxUint64) + bad} {
			for _, most := range []int{0, 1, 3, math.MaxInt} {
				checkApply(t, "abc", d, most, "", api.ErrForm)
				checkApply(t, "", d, most, "", api.ErrForm)
			}
			checkSize(t, d, 0, api.ErrForm)
		}
	}
	for x := range 256 {
		checkApply(t, "abc", string([]byte{byte(x)}), 9, "", api.ErrForm)
		checkSize(t, string([]byte{byte(x)}), 0, api.ErrForm)
	}
	checkApply(t, "abc", "\x83\x00\x03\x07\x00", 9, "", api.ErrForm)
	checkApply(t, "abc", "\x03\x83\x00\x07\x00", 9, "", api.ErrForm)
}

// P6.1: the length of another base, whatever the rest.
func TestOtherBase(t *testing.T) {
	for n := range 140 {
		base := manyBytes(n, uint64(n))
		for told := range 140 {
			want := api.ErrBase
			if told == n {
				want = api.OK
			}
			checkApply(t, base, written(told, 0), 0, "", want)
		}
	}
	for _, told := range []uint64{4, 3 + 1<<8, 3 + 1<<16, 3 + 1<<31, 3 + 1<<32, 3 + 1<<63, math.MaxInt32, math.MaxInt64, 1 << 63, math.MaxUint64} {
		for _, rest := range []string{"\x00", "\x01", "\x03\x07\x00", "\x00\x00", "\x01\x80", number(math.MaxUint64), "\x03\x07\x01"} {
			for _, most := range []int{0, 1, 2, 3, math.MaxInt} {
				checkApply(t, "abc", number(told)+rest, most, "", api.ErrBase)
			}
		}
	}
}

// P6.1: a told length above most, whatever the steps.
func TestAboveMost(t *testing.T) {
	for _, steps := range []string{"", "\x07\x00", "\x06xyz", "\x00", "\x01\x00", "\x80", "\x06x", "\x07\x01", copied(4, 0)} {
		for most := range 3 {
			checkApply(t, "abc", written(3, 3)+steps, most, "", api.ErrLimit)
		}
		for _, told := range []uint64{10, 1<<32 + 3, 1<<63 + 3, math.MaxInt32 + 1, math.MaxInt64, 1 << 63, math.MaxUint64} {
			checkApply(t, "abc", "\x03"+number(told)+steps, 9, "", api.ErrLimit)
			checkApply(t, "abc", "\x04"+number(told)+steps, 9, "", api.ErrBase)
			if told > math.MaxInt {
				checkApply(t, "abc", "\x03"+number(told)+steps, math.MaxInt, "", api.ErrLimit)
			}
		}
	}
}

// P6.1: literals of no byte, of one and more, and those that lack bytes.
func TestLiterals(t *testing.T) {
	for n := 1; n < 300; n++ {
		text := manyBytes(n, uint64(n))
		checkJust(t, "abc", written(3, n, literal(text)), text)
		checkJust(t, "", written(0, n+2, literal("x"), literal(text), literal("y")), "x"+text+"y")
		cut := literal(text)[:len(literal(text))-1]
		for _, told := range []int{0, n - 1, n, n + 1} {
			checkApply(t, "abc", written(3, told, cut), 1000, "", api.ErrForm)
		}
	}
	for _, n := range []int{8191, 8192, 65536, 1 << 18} {
		text := manyBytes(n, uint64(n))
		checkJust(t, "abc", written(3, n, literal(text)), text)
	}
	for _, steps := range []string{literal(""), literal("") + literal("a"), literal("a") + literal(""), literal("") + copied(1, 0), copied(1, 0) + literal("")} {
		checkApply(t, "abc", written(3, 0, steps), 9, "", api.ErrForm)
		checkApply(t, "abc", written(3, 1, steps), 9, "", api.ErrForm)
	}
}

// P6.1: every copy of short bases: from offset 0, to just the base's end, past it, and of no byte.
func TestCopies(t *testing.T) {
	for n := range 24 {
		base := manyBytes(n, uint64(n))
		for from := range n + 3 {
			for count := range n + 3 {
				d := written(n, count, copied(uint64(count), uint64(from)))
				if count == 0 || from+count > n {
					checkApply(t, base, d, count, "", api.ErrForm)
					checkApply(t, base, d, math.MaxInt, "", api.ErrForm)
					continue
				}
				checkJust(t, base, d, base[from:from+count])
			}
		}
	}
	for _, n := range []int{127, 128, 129, 4096, 65537} {
		base := manyBytes(n, uint64(n))
		checkJust(t, base, written(n, n, copied(uint64(n), 0)), base)
		checkJust(t, base, written(n, 1, copied(1, uint64(n-1))), base[n-1:])
		checkJust(t, base, written(n, n-1, copied(uint64(n-1), 1)), base[1:])
		checkApply(t, base, written(n, n, copied(uint64(n), 1)), n, "", api.ErrForm)
		checkApply(t, base, written(n, n+1, copied(uint64(n+1), 0)), n+1, "", api.ErrForm)
		checkApply(t, base, written(n, 1, copied(1, uint64(n))), 1, "", api.ErrForm)
		checkApply(t, base, written(n, 2, copied(2, uint64(n-1))), 2, "", api.ErrForm)
	}
}

// P6.1: a copy of no byte is malformed wherever it is from, and so is every copy from an empty base.
func TestCopiesOfNothing(t *testing.T) {
	for _, from := range []uint64{0, 1, 2, 3, 4, math.MaxUint64} {
		for _, told := range []int{0, 1} {
			checkApply(t, "abc", written(3, told, copied(0, from)), 9, "", api.ErrForm)
			checkApply(t, "abc", written(3, told, copied(1, 0), copied(0, from)), 9, "", api.ErrForm)
			checkApply(t, "", written(0, told, copied(0, from)), 9, "", api.ErrForm)
			checkApply(t, "", written(0, told, copied(1, from)), 9, "", api.ErrForm)
		}
	}
}

// P6.1: the greatest counts and offsets, whose sum may wrap round.
func TestGreatest(t *testing.T) {
	great := []uint64{1 << 8, 1 << 16, math.MaxInt32, 1 << 31, 1 << 32, 1<<32 + 1, 1<<32 + 3, 1 << 40, 1 << 62, math.MaxInt64 - 1, math.MaxInt64}
	for _, n := range great {
		for _, told := range []int{0, 1, 3, int(n)} {
			for _, steps := range []string{copied(n, 0), copied(n, 1), copied(n, n), copied(n, math.MaxUint64), copied(n, 0-n), copied(n, 1-n), copied(n, 3-n), number(2 * n), number(2*n) + "abc"} {
				checkApply(t, "abc", written(3, told, steps), math.MaxInt, "", api.ErrForm)
				checkApply(t, "", written(0, told, steps), math.MaxInt, "", api.ErrForm)
			}
		}
	}
	for _, from := range append(great, 1<<63, 1<<63+1, math.MaxUint64-3, math.MaxUint64-2, math.MaxUint64-1, math.MaxUint64) {
		for count := range uint64(5) {
			checkApply(t, "abc", written(3, int(count), copied(count, from)), math.MaxInt, "", api.ErrForm)
		}
	}
	for _, from := range []uint64{0, 1, math.MaxUint64} {
		checkApply(t, "abc", written(3, 3, number(math.MaxUint64)+number(from)), math.MaxInt, "", api.ErrForm)
		checkApply(t, "abc", written(3, 3, number(math.MaxUint64-1)+number(from)), math.MaxInt, "", api.ErrForm)
	}
}

// P6.1: a told length of very many bytes that the steps do not produce is found without that memory.
func TestGreatTarget(t *testing.T) {
	for _, told := range []int{math.MaxInt32, 1 << 40, math.MaxInt64} {
		for _, steps := range []string{"", copied(3, 0), literal("abcd"), copied(3, 0) + "\x00", "\x80"} {
			checkApply(t, "abc", written(3, told, steps), told, "", api.ErrForm)
			checkApply(t, "abc", written(3, told, steps), told-1, "", api.ErrLimit)
		}
	}
}

// P6.1: steps that produce just as many bytes as is told, fewer, and more.
func TestOtherLengths(t *testing.T) {
	base := manyBytes(200, 1)
	for _, steps := range []string{literal("a"), literal("abcdef"), copied(1, 199), copied(6, 0), copied(200, 0), copied(50, 3) + literal("xyz"), literal("xyz") + copied(150, 50), copied(200, 0) + copied(200, 0) + literal(base)} {
		want, e := toldApply(base, written(200, lengthOf(base, steps), steps), 1000)
		if e != api.OK {
			t.Fatalf("%x: %d", steps, e)
		}
		checkJust(t, base, written(200, len(want), steps), want)
		for told := range 700 {
			if told != len(want) {
				checkApply(t, base, written(200, told, steps), 700, "", api.ErrForm)
			}
		}
	}
	for _, told := range []int{1, 2, 127, 128, 700} {
		checkApply(t, base, written(200, told), 700, "", api.ErrForm)
	}
	checkApply(t, base, written(200, 0), 700, "", api.OK)
}

// lengthOf is the length that is told where there is no error.
func lengthOf(base, steps string) int {
	for n := range 2000 {
		if _, e := toldApply(base, written(len(base), n, steps), n); e == api.OK {
			return n
		}
	}
	return -1
}

// P6.1: the order of the errors: each pair of them in one call.
func TestErrorOrder(t *testing.T) {
	for _, c := range []struct {
		d    string
		most int
		e    api.Errno
	}{
		{"\x80", -1, api.ErrArg},
		{"\x04\x00", -1, api.ErrArg},
		{"\x03\x09", -1, api.ErrArg},
		{"\x03\x00\x00", -1, api.ErrArg},
		{"\x04", 9, api.ErrForm},
		{"\x04\x80", 0, api.ErrForm},
		{"\x04\x09", 8, api.ErrBase},
		{"\x04\x09\x00", 9, api.ErrBase},
		{"\x03\x09\x00", 8, api.ErrLimit},
		{"\x03\x09\x0cabcdef", 8, api.ErrLimit},
		{"\x03\x09\x00", 9, api.ErrForm},
		{"\x03\x09\x0cabcdef", 9, api.ErrForm},
	} {
		checkApply(t, "abc", c.d, c.most, "", c.e)
	}
}

// P6.1: deltas that are cut off at every place, and that go on.
func TestCutOff(t *testing.T) {
	base := manyBytes(400, 1)
	steps := []string{literal("abcdefgh"), copied(300, 7), literal(manyBytes(200, 1)), copied(1, 399), copied(64, 200), literal("end")}
	whole := written(400, 8+300+200+1+64+3, steps...)
	if e := checkAsTold(t, base, whole, 576); e != api.OK {
		t.Errorf("the whole: %d", e)
	}
	for n := range len(whole) {
		if checkAsTold(t, base, whole[:n], 576) != api.ErrForm {
			t.Errorf("cut off at %d", n)
		}
	}
	for x := range 256 {
		for _, more := range []string{"", "a", "\x00", "\x01", "abc"} {
			if checkAsTold(t, base, whole+string([]byte{byte(x)})+more, 576) != api.ErrForm {
				t.Errorf("longer by %d, %q", x, more)
			}
		}
	}
}

// P6.1: numbers of steps that are written too long, that have no end, or that are too great.
func TestNumbers(t *testing.T) {
	for _, bad := range []string{"\x82\x00a", "\x82\x80\x00a", "\x83\x00\x01", "\x03\x81\x00", "\x03\x80\x80\x00", "\x80", "\x03", "\x03\x80", "\xff\xff", strings.Repeat("\x80", 9) + "\x02", strings.Repeat("\xff", 10), "\x03" + strings.Repeat("\xff", 9) + "\x02"} {
		for told := range 4 {
			for _, d := range []string{written(3, told, bad), written(3, told, literal("a"), bad), written(3, told, copied(1, 0), bad), written(3, told, bad, literal("a"))} {
				checkApply(t, "abc", d, 9, "", api.ErrForm)
			}
		}
	}
}

// P6.1: every other byte at every place.
func TestEveryByte(t *testing.T) {
	base := manyBytes(130, 1)
	for _, c := range []struct{ base, d string }{
		{"abcdef", written(6, 10, literal("xy"), copied(5, 1), literal("z"), copied(2, 4))},
		{base, written(130, 233, literal("a"), copied(130, 0), copied(101, 29), literal("x"))},
		{"", written(0, 3, literal("abc"))},
		{"abc", written(3, 0)},
	} {
		if e := checkAsTold(t, c.base, c.d, 1000); e != api.OK {
			t.Errorf("%x: %d", c.d, e)
		}
		for i := range len(c.d) {
			for x := range 256 {
				b := []byte(c.d)
				b[i] = byte(x)
				for _, most := range []int{0, 1, 10, 11, 300, 1 << 20} {
					checkAsTold(t, c.base, string(b), most)
				}
			}
		}
	}
}

// P6.1: all short strings of telling bytes.
func TestAllShort(t *testing.T) {
	seen := map[api.Errno]int{}
	allStrings("\x00\x01\x02\x03\x05\x80", 6, func(d string) {
		for _, most := range []int{0, 2, 5} {
			seen[checkAsTold(t, "ab", d, most)]++
		}
	})
	for _, e := range []api.Errno{api.OK, api.ErrForm, api.ErrBase, api.ErrLimit} {
		if seen[e] < 100 {
			t.Errorf("%v", seen)
		}
	}
	allStrings("\x00\x01\x02\x03\x04\x05\x80", 5, func(d string) { checkAsTold(t, "", d, 2) })
	allStrings("\x00\x01\x02\x03\x04\x05\x07", 5, func(d string) { checkAsTold(t, "abc", "\x03"+d, 5) })
}

// P6.1: steps without a pattern, held against the chapter's words.
func TestApplyAsTold(t *testing.T) {
	seen := map[api.Errno]int{}
	for i := range uint64(3000) {
		base := manyBytes(int(i%97)+1, i)
		choice := manyBytes(40, i)
		steps, made := "", 0
		for k := 0; k+3 < len(choice); k += 4 {
			n := int(choice[k+1])%len(base) + 1
			if choice[k]%3 > 0 {
				from := int(choice[k+2])%(len(base)-n+1) + int(choice[k+3])/255
				steps += copied(uint64(n), uint64(from))
			} else {
				steps += literal(manyBytes(n, i+uint64(k)))
			}
			made += n
		}
		for _, told := range []int{made, made - 1, made + 1} {
			seen[checkAsTold(t, base, written(len(base), told, steps), made)]++
		}
	}
	if seen[api.OK] < 100 || seen[api.ErrForm] < 100 || seen[api.ErrLimit] < 100 {
		t.Errorf("%v", seen)
	}
}

// P6.1: Size is the second number up to 2^31 - 1, whatever the first one and the steps.
func TestSize(t *testing.T) {
	for _, first := range []uint64{0, 1, 127, 128, 4096, math.MaxInt32, 1 << 31, math.MaxInt64, math.MaxUint64} {
		for _, steps := range []string{"", "\x00", "\x80", "\x02", "\x02a", "\x03\x00", "some bytes"} {
			for _, n := range []int{0, 1, 2, 127, 128, 4096, 65536, math.MaxInt32 - 1, math.MaxInt32} {
				checkSize(t, number(first)+number(uint64(n))+steps, n, api.OK)
			}
			for _, n := range []uint64{1 << 31, 1<<31 + 1, math.MaxUint32, 1 << 32, 1<<32 + 1, math.MaxInt64, 1 << 63, 1<<63 + 1, math.MaxUint64} {
				checkSize(t, number(first)+number(n)+steps, 0, api.ErrForm)
			}
		}
	}
}

// P0, R1: of a target beyond the bound of the document nothing is promised, but the call ends without a panic.
func TestBeyondTheBound(t *testing.T) {
	base := strings.Repeat("a", 1<<20)
	steps := strings.Repeat(copied(1<<20, 0), 1<<14)
	if s, e := Apply(base, written(1<<20, 1<<34, steps), math.MaxInt); s != "" || e == api.OK {
		t.Errorf("%d bytes, %d", len(s), e)
	}
	checkApply(t, base, written(1<<20, 1<<34+1, steps), math.MaxInt, "", api.ErrForm)
	checkApply(t, base, written(1<<20, 1<<34-1, steps), math.MaxInt, "", api.ErrForm)
	checkApply(t, base, written(1<<20, 1<<34, steps), 1<<34-1, "", api.ErrLimit)
}
