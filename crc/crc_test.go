package crc

import (
	"encoding/binary"
	"hash/crc32"
	"strings"
	"testing"

	"knapsack/api"
)

// manyBytes are n bytes of all values, always the same ones for a seed.
func manyBytes(n int, seed uint64) string {
	b := make([]byte, n)
	x := seed
	for i := range b {
		x = x*6364136223846793005 + 1442695040888963407
		b[i] = byte(x >> 56)
	}
	return string(b)
}

// shortStrings are all strings of at most two bytes, and those of three to five bytes with every byte value at every place.
func shortStrings() []string {
	l := []string{""}
	for a := range 256 {
		l = append(l, string([]byte{byte(a)}))
		for b := range 256 {
			l = append(l, string([]byte{byte(a), byte(b)}))
		}
	}
	for n := 3; n <= 5; n++ {
		for _, fill := range []string{"\x00", "\x01", "\x80", "\xff"} {
			for i := range n {
				for a := range 256 {
					b := []byte(strings.Repeat(fill, n))
					b[i] = byte(a)
					l = append(l, string(b))
				}
			}
		}
	}
	return l
}

// mixedStrings are of every length up to some hundred bytes, and of any bytes.
func mixedStrings() []string {
	l := []string{"123456789", "hi", "\u00e9\n", "\xff\xfe", "\x00\x00\x00\x00", "\xff\xff\xff\xff"}
	for n := range 300 {
		l = append(l,
			strings.Repeat("\x00", n),
			strings.Repeat("\x80", n),
			strings.Repeat("\xff", n),
			manyBytes(n, uint64(n)))
	}
	return l
}

// divided is the checksum as the chapter tells it: a division of polynomials, coefficient by coefficient, that of the highest power first.
func divided(s string) uint32 {
	var whole []bool
	for i := range len(s) {
		for bit := range 8 {
			whole = append(whole, s[i]>>bit&1 == 1)
		}
	}
	whole = append(whole, make([]bool, 32)...)
	for i := range 32 {
		whole[i] = !whole[i]
	}
	last := len(whole) - 32
	for i := range last {
		if !whole[i] {
			continue
		}
		for _, power := range []int{32, 26, 23, 22, 16, 12, 11, 10, 8, 7, 5, 4, 2, 1, 0} {
			at := i + 32 - power
			whole[at] = !whole[at]
		}
	}
	var sum uint32
	for i, one := range whole[last:] {
		if !one {
			sum |= 1 << i
		}
	}
	return sum
}

func checkSum(t *testing.T, s string, want uint32) {
	t.Helper()
	if got := Sum(s); got != want {
		t.Errorf("Sum of %d bytes %.40q: %08x, not %08x", len(s), s, got, want)
	}
}

func checkOpen(t *testing.T, s, text string, e api.Errno) {
	t.Helper()
	if gt, ge := Open(s); gt != text || ge != e {
		t.Errorf("Open of %d bytes %.40q: %.40q, %d, not %.40q, %d", len(s), s, gt, ge, text, e)
	}
}

// checkChanged tries every other byte at every place of a sealed string.
func checkChanged(t *testing.T, text string) {
	t.Helper()
	b := []byte(Seal(text))
	for i := range b {
		for change := 1; change < 256; change++ {
			b[i] ^= byte(change)
			checkOpen(t, string(b), "", api.ErrSum)
			b[i] ^= byte(change)
		}
	}
	checkOpen(t, string(b), text, api.OK)
}

// P3.1: sums that are published.
func TestSumWritten(t *testing.T) {
	for _, c := range []struct {
		text string
		want uint32
	}{
		{"", 0},
		{"\x00", 0xd202ef8d},
		{"a", 0xe8b7be43},
		{"ab", 0x9e83486d},
		{"abc", 0x352441c2},
		{"abcd", 0xed82cd11},
		{"abcde", 0x8587d865},
		{"123456789", 0xcbf43926},
		{"\xff\xff\xff\xff", 0xffffffff},
		{strings.Repeat("\x00", 32), 0x190a55ad},
		{strings.Repeat("\xff", 32), 0xff6cab0b},
		{"The quick brown fox jumps over the lazy dog", 0x414fa339},
	} {
		checkSum(t, c.text, c.want)
	}
}

// P3.1: the division that the chapter tells.
func TestSumAsTold(t *testing.T) {
	for _, s := range append(shortStrings(), mixedStrings()...) {
		checkSum(t, s, divided(s))
	}
}

// P3.1: all short strings, and every length, as the library has them.
func TestSumAsLibrary(t *testing.T) {
	for _, s := range append(shortStrings(), mixedStrings()...) {
		checkSum(t, s, crc32.ChecksumIEEE([]byte(s)))
	}
	for _, n := range []int{1023, 1024, 1025, 65535, 65536, 65537, 1 << 20} {
		s := manyBytes(n, uint64(n))
		checkSum(t, s, crc32.ChecksumIEEE([]byte(s)))
	}
}

// P3.1
func TestSealWritten(t *testing.T) {
	for _, c := range []struct{ text, want string }{
		{"", "\x00\x00\x00\x00"},
		{"a", "a\x43\xbe\xb7\xe8"},
		{"abc", "abc\xc2\x41\x24\x35"},
		{"123456789", "123456789\x26\x39\xf4\xcb"},
		{"\xff\xff\xff\xff", "\xff\xff\xff\xff\xff\xff\xff\xff"},
	} {
		if s := Seal(c.text); s != c.want {
			t.Errorf("Seal(%q): %x, not %x", c.text, s, c.want)
		}
		checkOpen(t, c.want, c.text, api.OK)
	}
}

// P3.1: the string itself, then its sum, the least byte first.
func TestSealAsLibrary(t *testing.T) {
	for _, s := range append(shortStrings(), mixedStrings()...) {
		want := string(binary.LittleEndian.AppendUint32([]byte(s), crc32.ChecksumIEEE([]byte(s))))
		if got := Seal(s); got != want {
			t.Errorf("Seal of %d bytes %.40q: %x, not %x", len(s), s, got, want)
		}
		checkOpen(t, want, s, api.OK)
	}
}

// P3.1: fewer than four bytes, whatever they are.
func TestOpenTooShort(t *testing.T) {
	for _, s := range shortStrings() {
		if len(s) < 4 {
			checkOpen(t, s, "", api.ErrForm)
		}
	}
	for _, text := range []string{"", "a", "123456789"} {
		s := Seal(text)
		for n := range 4 {
			checkOpen(t, s[:n], "", api.ErrForm)
			checkOpen(t, s[len(s)-n:], "", api.ErrForm)
		}
	}
}

// P3.1: four bytes are the sum of the empty string, or of nothing.
func TestOpenFourBytes(t *testing.T) {
	checkOpen(t, "\x00\x00\x00\x00", "", api.OK)
	checkOpen(t, "abcd", "", api.ErrSum)
	checkOpen(t, "\xff\xff\xff\xff", "", api.ErrSum)
	for _, s := range shortStrings() {
		if len(s) == 4 && s != "\x00\x00\x00\x00" {
			checkOpen(t, s, "", api.ErrSum)
		}
	}
}

// P3.1: sums that are near the right one, but not it.
func TestOpenWrongSum(t *testing.T) {
	for _, s := range []string{"", "a", "ab", "abc", "abcd", "abcde", "123456789", manyBytes(200, 3)} {
		sum := crc32.ChecksumIEEE([]byte(s))
		for _, wrong := range []uint32{sum + 1, sum - 1, ^sum, sum ^ 1<<31, sum ^ 1<<15} {
			checkOpen(t, string(binary.LittleEndian.AppendUint32([]byte(s), wrong)), "", api.ErrSum)
		}
	}
	// the greatest byte first, or ahead of the string
	checkOpen(t, "a\xe8\xb7\xbe\x43", "", api.ErrSum)
	checkOpen(t, "\x43\xbe\xb7\xe8a", "", api.ErrSum)
}

// P3.1: a sealed string with bytes cut off, or with more of them, on either side.
func TestOpenCutOrLonger(t *testing.T) {
	for _, text := range []string{"a", "abcde", "123456789"} {
		s := Seal(text)
		for n := 4; n < len(s); n++ {
			checkOpen(t, s[:n], "", api.ErrSum)
			checkOpen(t, s[len(s)-n:], "", api.ErrSum)
		}
		for _, more := range []string{"\x00", "\xff", "z", s} {
			checkOpen(t, s+more, "", api.ErrSum)
			checkOpen(t, more+s, "", api.ErrSum)
		}
	}
}

// P3.2: Open inverts Seal, also of what is sealed already.
func TestOpenWhatIsSealed(t *testing.T) {
	for _, s := range append(shortStrings(), mixedStrings()...) {
		checkOpen(t, Seal(s), s, api.OK)
		checkOpen(t, Seal(Seal(s)), Seal(s), api.OK)
	}
	long := manyBytes(1<<20, 9)
	checkOpen(t, Seal(long), long, api.OK)
}

// P3.2: what can be opened is what Seal makes.
func TestSealWhatIsOpened(t *testing.T) {
	opened := 0
	for _, s := range append(shortStrings(), mixedStrings()...) {
		if text, e := Open(s); e == api.OK {
			opened++
			if Seal(text) != s {
				t.Errorf("Open(%x): %x", s, text)
			}
		}
	}
	if opened == 0 {
		t.Error("none was opened")
	}
}

// P3.2: a single byte changed, at every place, to every other value.
func TestOpenOneByteChanged(t *testing.T) {
	for _, text := range []string{"", "a", "ab", "abc", "abcd", "abcde", "\x00", "\xff\xff\xff\xff", "123456789", manyBytes(64, 1), manyBytes(255, 2)} {
		checkChanged(t, text)
	}
	for n := range 6 {
		checkChanged(t, strings.Repeat("\x00", n))
		checkChanged(t, manyBytes(n, uint64(n)))
	}
}

// P3.2: a single byte changed in a long string, one bit of it, and all of them.
func TestOpenOneByteChangedInLong(t *testing.T) {
	b := []byte(Seal(manyBytes(2000, 5)))
	for i := range b {
		for _, change := range []byte{1, 128, 255} {
			b[i] ^= change
			checkOpen(t, string(b), "", api.ErrSum)
			b[i] ^= change
		}
	}
}

// P0: the same answer each time, whatever was asked in between.
func TestNothingIsKept(t *testing.T) {
	for range 3 {
		checkSum(t, "123456789", 0xcbf43926)
		checkOpen(t, "abcd", "", api.ErrSum)
		checkOpen(t, "", "", api.ErrForm)
		checkOpen(t, Seal("a"), "a", api.OK)
	}
}
