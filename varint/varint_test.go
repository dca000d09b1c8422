package varint

import (
	"encoding/binary"
	"math"
	"strings"
	"testing"

	"knapsack/api"
)

// edgeNumbers are the least and the greatest number, and those on both sides of each place where one more byte, or one more bit, is needed.
func edgeNumbers() []uint64 {
	l := []uint64{0, 300, math.MaxUint64 - 1, math.MaxUint64}
	for bit := range 64 {
		p := uint64(1) << bit
		l = append(l, p-1, p, p+1)
	}
	return l
}

// manyNumbers are numbers of all sizes, always the same ones.
func manyNumbers() []uint64 {
	var l []uint64
	x := uint64(1)
	for i := range 5000 {
		x = x*6364136223846793005 + 1442695040888963407
		l = append(l, x>>(i%64))
	}
	return l
}

// edgeBytes are those on which the form of an encoding hangs.
var edgeBytes = []byte{0, 1, 2, 63, 64, 126, 127, 128, 129, 130, 191, 192, 254, 255}

// edgeStrings are all strings of at most two bytes, and strings of three to twelve bytes that continue, or end, in every edge byte.
func edgeStrings() []string {
	l := []string{""}
	for a := range 256 {
		l = append(l, string([]byte{byte(a)}))
		for b := range 256 {
			l = append(l, string([]byte{byte(a), byte(b)}))
		}
	}
	for _, fill := range []string{"\x80", "\x81", "\xff"} {
		for n := 1; n <= 10; n++ {
			for _, a := range edgeBytes {
				for _, b := range edgeBytes {
					l = append(l, strings.Repeat(fill, n)+string([]byte{a, b}))
				}
			}
		}
	}
	return l
}

// expected is what Get has to answer, worked out by the library's varints, which differ only in that they permit more bytes than necessary.
func expected(s string) (uint64, string, api.Errno) {
	n, size := binary.Uvarint([]byte(s))
	if size <= 0 || len(binary.AppendUvarint(nil, n)) != size {
		return 0, "", api.ErrForm
	}
	return n, s[size:], api.OK
}

func checkGet(t *testing.T, s string, n uint64, rest string, e api.Errno) {
	t.Helper()
	if gn, gr, ge := Get(s); gn != n || gr != rest || ge != e {
		t.Errorf("Get(%x): %d, %q, %d, not %d, %q, %d", s, gn, gr, ge, n, rest, e)
	}
}

func checkTake(t *testing.T, s, text, rest string, e api.Errno) {
	t.Helper()
	if gt, gr, ge := Take(s); gt != text || gr != rest || ge != e {
		t.Errorf("Take of %d bytes %.40q: %.40q, %.40q, %d, not %.40q, %.40q, %d", len(s), s, gt, gr, ge, text, rest, e)
	}
}

// P1.1
func TestPutWritten(t *testing.T) {
	for _, c := range []struct {
		n    uint64
		want string
	}{
		{0, "\x00"},
		{1, "\x01"},
		{127, "\x7f"},
		{128, "\x80\x01"},
		{129, "\x81\x01"},
		{300, "\xac\x02"},
		{16383, "\xff\x7f"},
		{16384, "\x80\x80\x01"},
		{1 << 32, "\x80\x80\x80\x80\x10"},
		{1<<63 - 1, "\xff\xff\xff\xff\xff\xff\xff\xff\x7f"},
		{1 << 63, "\x80\x80\x80\x80\x80\x80\x80\x80\x80\x01"},
		{1<<64 - 1, "\xff\xff\xff\xff\xff\xff\xff\xff\xff\x01"},
	} {
		if s := Put(c.n); s != c.want {
			t.Errorf("Put(%d): %x, not %x", c.n, s, c.want)
		}
		checkGet(t, c.want, c.n, "", api.OK)
		checkGet(t, c.want+"\x80\x00rest", c.n, "\x80\x00rest", api.OK)
	}
}

// P1.1
func TestPutAsLibrary(t *testing.T) {
	for _, n := range append(edgeNumbers(), manyNumbers()...) {
		if s, want := Put(n), string(binary.AppendUvarint(nil, n)); s != want {
			t.Errorf("Put(%d): %x, not %x", n, s, want)
		}
	}
}

// P1.1
func TestGetAsLibrary(t *testing.T) {
	for _, s := range edgeStrings() {
		n, rest, e := expected(s)
		checkGet(t, s, n, rest, e)
	}
}

// P1.1: no encoding that is cut off.
func TestGetCutOff(t *testing.T) {
	for _, n := range edgeNumbers() {
		s := Put(n)
		for i := range len(s) {
			checkGet(t, s[:i], 0, "", api.ErrForm)
		}
	}
}

// P1.1: none that is longer than necessary, however much.
func TestGetTooLong(t *testing.T) {
	for _, n := range edgeNumbers() {
		s := []byte(Put(n))
		for range 12 {
			s[len(s)-1] |= 128
			s = append(s, 0)
			checkGet(t, string(s), 0, "", api.ErrForm)
			checkGet(t, string(s)+"rest", 0, "", api.ErrForm)
		}
	}
}

// P1.1: no number of more than 64 bits.
func TestGetTooGreat(t *testing.T) {
	for _, fill := range []string{"\x80", "\xff"} {
		nine := strings.Repeat(fill, 9)
		for b := 2; b < 256; b++ {
			checkGet(t, nine+string([]byte{byte(b)}), 0, "", api.ErrForm)
			checkGet(t, nine+string([]byte{byte(b)})+"\x01", 0, "", api.ErrForm)
		}
		for n := 10; n < 200; n++ {
			checkGet(t, strings.Repeat(fill, n)+"\x01", 0, "", api.ErrForm)
		}
		checkGet(t, strings.Repeat(fill, 1<<16), 0, "", api.ErrForm)
	}
}

// edgeTexts are of every length at which the length's encoding changes, and of any bytes.
func edgeTexts() []string {
	l := []string{"", "ab", "\x00", "\x80", "\xff\xfe", "\u00e9\n", Text("ab")}
	for _, n := range []int{1, 2, 126, 127, 128, 129, 300, 16383, 16384, 16385, 1 << 21} {
		l = append(l, strings.Repeat("x", n))
	}
	return l
}

// P1.2
func TestTextWritten(t *testing.T) {
	for _, c := range []struct{ text, want string }{
		{"", "\x00"},
		{"ab", "\x02ab"},
		{"\x00", "\x01\x00"},
		{"\u00e9", "\x02\xc3\xa9"},
		{strings.Repeat("x", 127), "\x7f" + strings.Repeat("x", 127)},
		{strings.Repeat("x", 128), "\x80\x01" + strings.Repeat("x", 128)},
		{strings.Repeat("x", 300), "\xac\x02" + strings.Repeat("x", 300)},
	} {
		if s := Text(c.text); s != c.want {
			t.Errorf("Text(%.40q): %.40q, not %.40q", c.text, s, c.want)
		}
		checkTake(t, c.want, c.text, "", api.OK)
		checkTake(t, c.want+"rest", c.text, "rest", api.OK)
	}
}

// P1.2
func TestTextAsLibrary(t *testing.T) {
	for _, text := range edgeTexts() {
		want := string(binary.AppendUvarint(nil, uint64(len(text)))) + text
		if s := Text(text); s != want {
			t.Errorf("Text of %d bytes: %.40q", len(text), s)
		}
	}
}

// P1.2: bytes that are told but are not all there.
func TestTakeCutOff(t *testing.T) {
	for _, text := range []string{"a", "ab", "abcdef", strings.Repeat("x", 128)} {
		s := Text(text)
		for i := range len(s) {
			checkTake(t, s[:i], "", "", api.ErrForm)
		}
	}
	for _, n := range []uint64{4, 1 << 31, 1<<32 + 1, 1<<63 - 1, 1 << 63, 1<<63 + 1, math.MaxUint64 - 1, math.MaxUint64} {
		checkTake(t, Put(n)+"abc", "", "", api.ErrForm)
		checkTake(t, Put(n), "", "", api.ErrForm)
	}
}

// P1.2: a length that is no encoding of a number.
func TestTakeBadLength(t *testing.T) {
	for _, s := range []string{
		"",
		"\x80",
		"\x80\x00",
		"\x82\x00ab",
		"\x82\x80\x00ab",
		strings.Repeat("\x80", 9) + "\x02ab",
		"\x82" + strings.Repeat("\x80", 9) + "\x00ab",
		"\x82" + strings.Repeat("\x80", 8) + "\x02ab",
		strings.Repeat("\xff", 100),
	} {
		checkTake(t, s, "", "", api.ErrForm)
	}
}

// P1.3: Get and Take invert Put and Text.
func TestReadWhatIsWritten(t *testing.T) {
	rests := []string{"", "\x00", "\x80", "\xff\xff", "zz"}
	for _, n := range append(edgeNumbers(), manyNumbers()...) {
		for _, rest := range rests {
			checkGet(t, Put(n)+rest, n, rest, api.OK)
		}
	}
	for _, text := range edgeTexts() {
		for _, rest := range rests {
			checkTake(t, Text(text)+rest, text, rest, api.OK)
		}
	}
}

// P1.3: Put and Text invert Get and Take.
func TestWriteWhatIsRead(t *testing.T) {
	numbers, texts := 0, 0
	for _, s := range edgeStrings() {
		if n, rest, e := Get(s); e == api.OK {
			numbers++
			if Put(n)+rest != s {
				t.Errorf("Get(%x): %d, %x", s, n, rest)
			}
		}
		if text, rest, e := Take(s); e == api.OK {
			texts++
			if Text(text)+rest != s {
				t.Errorf("Take(%x): %x, %x", s, text, rest)
			}
		}
	}
	if numbers == 0 || texts == 0 {
		t.Errorf("%d numbers and %d texts were read", numbers, texts)
	}
}

// P1.3: a row of encodings is read back one after the other.
func TestReadOneAfterTheOther(t *testing.T) {
	row := ""
	for _, n := range edgeNumbers() {
		row += Put(n) + Text(Put(n))
	}
	for _, n := range edgeNumbers() {
		m, rest, e := Get(row)
		text, after, f := Take(rest)
		if m != n || e != api.OK || text != Put(n) || f != api.OK {
			t.Fatalf("%d, %d, %x, %d instead of %d", m, e, text, f, n)
		}
		row = after
	}
	if row != "" {
		t.Errorf("%x is left", row)
	}
}
