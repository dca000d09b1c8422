package lz

import (
	"strings"
	"sync"
	"testing"

	"knapsack/api"
)

// P5.2: strings of 0 to 4096 equal bytes have at most 8 bytes when they are packed.
func TestPackEqualBytes(t *testing.T) {
	all := strings.Repeat("z", 4096)
	for n := range 4097 {
		p := Pack(all[:n])
		if u, e := toldUnpack(p, n); u != all[:n] || e != api.OK || len(p) > 8 || len(p) > n+1 {
			t.Errorf("%d equal bytes: %x, %d bytes, %d", n, p, len(u), e)
		}
	}
	for x := range 256 {
		for _, n := range []int{0, 1, 2, 3, 4, 5, 6, 7, 8, 9, 10, 63, 64, 65, 127, 128, 129, 4095, 4096} {
			s := strings.Repeat(string([]byte{byte(x)}), n)
			if p := checkPack(t, s); len(p) > 8 {
				t.Errorf("%d bytes %d: %d bytes", n, x, len(p))
			}
		}
	}
	for _, n := range []int{4097, 16384, 65535, 65536, 65537, 1 << 20} {
		checkPack(t, strings.Repeat("\x00", n))
	}
}

// P5.2 and P5.3: texts.
func TestPackTexts(t *testing.T) {
	for _, s := range []string{
		"", "a", "ab", "abc", "abcd", "abcde", "abcda", "abcdabc", "abcdabcd", "abcdabcde", "abcdxabcd", "aaaabaaaa",
		"no four bytes are twice here!", "to be or not to be, that is the question: to be or not",
		"\x00", "\x01", "\x00\x00", "\x01\x02a", "\x00abc", "\xff\xff\xff\xff\xff", "\u00e9\u00e9\u00e9\u00e9",
	} {
		checkPack(t, s)
	}
}

// P5.2 and P5.3: all short strings of few letters, in which each kind of match occurs.
func TestPackAllShort(t *testing.T) {
	allStrings("ab", 13, func(s string) { checkPack(t, s) })
	allStrings("abc", 8, func(s string) { checkPack(t, s) })
}

// P5.2: what can't be packed has one byte more.
func TestPackWithoutPattern(t *testing.T) {
	for n := range 400 {
		checkPack(t, manyBytes(n, uint64(n)))
	}
	for _, n := range []int{4096, 65535, 65536, 65537, 1 << 18} {
		checkPack(t, manyBytes(n, uint64(n)))
	}
}

// P5.2: matches that save less than they cost: four bytes again and again, each time with other ones around them.
func TestPackPoorMatches(t *testing.T) {
	for _, between := range []int{1, 2, 3, 4, 130, 200, 5000} {
		var s strings.Builder
		for i := range uint64(40) {
			s.WriteString(manyBytes(between, i))
			s.WriteString("four")
		}
		checkPack(t, s.String())
	}
	// four bytes of which each pair is far from the other
	near := manyBytes(20000, 1)
	var s strings.Builder
	for i := 0; i+4 <= 4000; i += 4 {
		s.WriteString(near[i : i+4])
		s.WriteString(manyBytes(1, uint64(i)))
	}
	checkPack(t, near+s.String())
}

// P5.2 and P5.3: patterns of every period, and few letters without a pattern.
func TestPackPatterns(t *testing.T) {
	for period := 1; period < 40; period++ {
		pattern := manyBytes(period, uint64(period))
		for _, n := range []int{period, period + 3, period + 4, period + 5, 3 * period, 500} {
			checkPack(t, strings.Repeat(pattern, n)[:n])
			checkPack(t, "x"+strings.Repeat(pattern, n)[:n]+"y")
		}
	}
	for letters := 1; letters <= 6; letters++ {
		for n := 0; n < 600; n += 7 {
			checkPack(t, fewLetters(n, letters, uint64(n)))
		}
		checkPack(t, fewLetters(100000, letters, 7))
	}
}

// P5.2 and P5.3: bytes that occurred last at about MaxFar back. The bytes between are equal, so that the string is packed as steps.
func TestPackFar(t *testing.T) {
	for _, far := range []int{16383, 16384, 65533, 65534, 65535, 65536, 65537, 65538, 131071, 131072} {
		for _, text := range []string{"wxyz", "knapsack", manyBytes(100, 3)} {
			s := text + strings.Repeat("-", far-len(text)) + text
			p := checkPack(t, s)
			if p[0] != 1 {
				t.Errorf("format %d", p[0])
			}
			checkPack(t, s+s)
			checkPack(t, s+strings.Repeat("-", 9)+text+text)
		}
	}
}

// P5.2: what occurs again makes the packed string shorter.
func TestPackShortens(t *testing.T) {
	for _, c := range []struct {
		s    string
		most int
	}{
		{"abcdefghabcdefgh", 13},
		{strings.Repeat("ab", 2048), 10},
		{strings.Repeat("knapsack ", 50), 30},
		{manyBytes(1000, 5) + manyBytes(1000, 5), 1020},
	} {
		if p := checkPack(t, c.s); len(p) > c.most {
			t.Errorf("%.40q: %d bytes", c.s, len(p))
		}
	}
}

// P5.3: with most one below the length of the string there is no output, and a packed string can be packed.
func TestInverse(t *testing.T) {
	for i := range 300 {
		s := fewLetters(i*3, 1+i%9, uint64(i))
		p := Pack(s)
		checkUnpack(t, p, len(s), s, api.OK)
		if s != "" {
			checkUnpack(t, p, len(s)-1, "", api.ErrLimit)
		}
		twice := Pack(p)
		checkUnpack(t, twice, len(p), p, api.OK)
		checkPack(t, p+twice)
	}
}

// P0, R3 and R4: a result hangs on the arguments alone, and calls at the same time do not disturb one another.
func TestNothingIsKept(t *testing.T) {
	var texts, packed []string
	for i := range 30 {
		s := strings.Repeat(fewLetters(40, 4, uint64(i)), 9)
		texts = append(texts, s)
		packed = append(packed, Pack(s))
	}
	var all sync.WaitGroup
	for range 4 {
		all.Go(func() {
			for i := range texts {
				k := len(texts) - 1 - i
				u, e := Unpack(packed[k], len(texts[k]))
				if p := Pack(texts[k]); p != packed[k] || u != texts[k] || e != api.OK {
					t.Errorf("text %d: %x, %.40q, %d", k, p, u, e)
				}
			}
		})
	}
	all.Wait()
}
