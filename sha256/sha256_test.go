package sha256

import (
	"bytes"
	library "crypto/sha256"
	"encoding/binary"
	"encoding/hex"
	"math"
	"slices"
	"strings"
	"testing"

	"knapsack/api"
)

// manyBytes are n bytes of all values, always the same ones for a seed.
func manyBytes(n int, seed uint64) string {
	b := make([]byte, n)
	x := seed
	for i := range b {
		x = x*6364136223846793005 + 1442695040888963407
		b[i] = byte(x >> 56)
	}
	return string(b)
}

// manyIds are ids of all kinds, the least and the greatest among them.
func manyIds() []api.Id {
	l := []api.Id{{}, {0: 1}, {31: 1}, {0: 255}, {31: 255}, {0: 0x1f, 31: 0xe0}}
	var full api.Id
	for i := range full {
		full[i] = 255
	}
	l = append(l, full)
	for seed := range uint64(50) {
		l = append(l, api.Id([]byte(manyBytes(32, seed))))
	}
	// every byte value, at every place
	for b := range 256 {
		var id api.Id
		for i := range id {
			id[i] = byte(b + i)
		}
		l = append(l, id)
	}
	return l
}

func checkSum(t *testing.T, want string, parts ...string) {
	t.Helper()
	id := Sum(parts...)
	if got := hex.EncodeToString(id[:]); got != want {
		n := 0
		for _, p := range parts {
			n += len(p)
		}
		t.Errorf("Sum of %d bytes in %d parts: %s, not %s", n, len(parts), got, want)
	}
}

func libraryHex(s string) string {
	id := library.Sum256([]byte(s))
	return hex.EncodeToString(id[:])
}

// P2.1: sums that are published.
func TestSumWritten(t *testing.T) {
	for _, c := range []struct{ text, want string }{
		{"", "e3b0c44298fc1c149afbf4c8996fb92427ae41e4649b934ca495991b7852b855"},
		{"abc", "ba7816bf8f01cfea414140de5dae2223b00361a396177a9cb410ff61f20015ad"},
		{"abcdbcdecdefdefgefghfghighijhijkijkljklmklmnlmnomnopnopq", "248d6a61d20638b8e5c026930c3e6039a33ce45964ff2167f6ecedd419db06c1"},
		{"abcdefghbcdefghicdefghijdefghijkefghijklfghijklmghijklmnhijklmnoijklmnopjklmnopqklmnopqrlmnopqrsmnopqrstnopqrstu", "cf5b16a778af8380036ce59e7b0492370b249b11e8f07a51afac45037afee9d1"},
		{"\xbd", "68325720aabd7c82f30f554b313d0570c95accbb7dc4b5aae11204c08ffe732b"},
		{strings.Repeat("a", 1000000), "cdc76e5c9914fb9281a1c7e284d73e67f1809a48a497200e046d39ccc7112cd0"},
	} {
		checkSum(t, c.want, c.text)
	}
}

// P2.1: no part is no byte.
func TestSumOfNothing(t *testing.T) {
	want := "e3b0c44298fc1c149afbf4c8996fb92427ae41e4649b934ca495991b7852b855"
	checkSum(t, want)
	checkSum(t, want, []string(nil)...)
	checkSum(t, want, []string{}...)
	checkSum(t, want, "")
	checkSum(t, want, "", "", "")
	checkSum(t, want, make([]string, 1000)...)
}

// P2.1: every length up to some blocks, so all those around 55, 56, 63 and 64 and their multiples.
func TestSumOfEveryLength(t *testing.T) {
	for n := range 64*9 + 2 {
		for _, s := range []string{
			strings.Repeat("\x00", n),
			strings.Repeat("\x80", n),
			strings.Repeat("\xff", n),
			manyBytes(n, uint64(n)),
		} {
			checkSum(t, libraryHex(s), s)
		}
	}
}

// P2.1: greater lengths, around multiples of a block.
func TestSumOfGreatLengths(t *testing.T) {
	for _, blocks := range []int{15, 16, 31, 32, 63, 64, 127, 128, 1023, 1024} {
		for _, more := range []int{-9, -8, -1, 0, 1, 54, 55, 56, 57} {
			s := manyBytes(64*blocks+more, uint64(blocks))
			checkSum(t, libraryHex(s), s)
		}
	}
}

// P2.1: every single byte counts, wherever it stands.
func TestSumOfOneByteChanged(t *testing.T) {
	s := manyBytes(130, 7)
	seen := map[api.Id]int{Sum(s): -1}
	for i := range len(s) {
		b := []byte(s)
		b[i] ^= 1 << (i % 8)
		id := Sum(string(b))
		if j, ok := seen[id]; ok {
			t.Errorf("bytes %d and %d changed: equal sums", i, j)
		}
		seen[id] = i
		checkSum(t, libraryHex(string(b)), string(b))
	}
}

// P2.1: the padding fits, and its last eight bytes are the bits of the whole message, also where these are more than 32 bits can tell.
func TestEnding(t *testing.T) {
	for _, blocks := range []uint64{0, 1, 3, 1 << 17, 1 << 22, 1 << 23, 1<<25 - 1, 1 << 26, 1 << 54} {
		for n := range 64 {
			last := manyBytes(n, blocks)
			whole := 64*blocks + uint64(n)
			zeros := 55 - n
			if n > 55 {
				zeros += 64
			}
			want := last + "\x80" + strings.Repeat("\x00", zeros) + string(binary.BigEndian.AppendUint64(nil, 8*whole))
			if got := ending(last, whole); got != want {
				t.Errorf("ending of %d bytes of %d: %x, not %x", n, whole, got, want)
			}
		}
	}
	if got := ending("", math.MaxInt32); !strings.HasSuffix(got, "\x00\x00\x00\x03\xff\xff\xff\xf8") {
		t.Errorf("ending of 2^31-1 bytes: %x", got)
	}
}

// P2.3: two parts, divided at each place, with empty parts between.
func TestSumOfTwoParts(t *testing.T) {
	for _, n := range []int{1, 2, 55, 56, 57, 63, 64, 65, 119, 120, 121, 127, 128, 129, 192, 200} {
		s := manyBytes(n, uint64(n))
		want := libraryHex(s)
		for i := range n + 1 {
			checkSum(t, want, s[:i], s[i:])
			checkSum(t, want, "", s[:i], "", "", s[i:], "")
		}
	}
}

// P2.3: many parts of one size, down to single bytes.
func TestSumOfManyParts(t *testing.T) {
	for _, n := range []int{64, 65, 128, 500, 1000} {
		s := manyBytes(n, uint64(n))
		want := libraryHex(s)
		for _, size := range []int{1, 2, 3, 7, 55, 56, 63, 64, 65, 128} {
			var parts []string
			for piece := range slices.Chunk([]byte(s), size) {
				parts = append(parts, string(piece), "")
			}
			checkSum(t, want, parts...)
		}
	}
}

// P2.3: three parts, divided at all pairs of places.
func TestSumOfThreeParts(t *testing.T) {
	s := manyBytes(66, 3)
	want := libraryHex(s)
	for i := range len(s) + 1 {
		for j := i; j <= len(s); j++ {
			checkSum(t, want, s[:i], s[i:j], s[j:])
		}
	}
}

// P2.1: the order of the parts counts.
func TestSumOfPartsInOrder(t *testing.T) {
	if Sum("ab", "c") == Sum("c", "ab") {
		t.Error("ab, c and c, ab: equal sums")
	}
	checkSum(t, libraryHex("cab"), "c", "ab")
}

// R3, R4: the parts are left as they are, and nothing is kept from call to call.
func TestSumKeepsNothing(t *testing.T) {
	parts := []string{"a", "", strings.Repeat("b", 64), "c"}
	before := slices.Clone(parts)
	first := Sum(parts...)
	if !slices.Equal(parts, before) {
		t.Errorf("parts changed: %q", parts)
	}
	Sum("something", "else")
	if Sum(parts...) != first {
		t.Error("the same parts: another sum")
	}
	parts[0] = "x"
	if Sum(before...) != first {
		t.Error("changing the parts later changed the sum")
	}
}

// P2.2
func TestHexWritten(t *testing.T) {
	for _, c := range []struct {
		id   api.Id
		want string
	}{
		{api.Id{}, strings.Repeat("00", 32)},
		{api.Id{0: 0x1f, 31: 0xe0}, "1f" + strings.Repeat("00", 30) + "e0"},
		{api.Id{0: 0x01, 1: 0x10, 30: 0xab, 31: 0xcd}, "0110" + strings.Repeat("00", 28) + "abcd"},
		{api.Id{0x01, 0x23, 0x45, 0x67, 0x89, 0xab, 0xcd, 0xef}, "0123456789abcdef" + strings.Repeat("00", 24)},
		{Sum("abc"), "ba7816bf8f01cfea414140de5dae2223b00361a396177a9cb410ff61f20015ad"},
	} {
		if h := Hex(c.id); h != c.want {
			t.Errorf("Hex(%v): %s, not %s", c.id, h, c.want)
		}
		if id, ok := Unhex(c.want); id != c.id || !ok {
			t.Errorf("Unhex(%s): %v, %v", c.want, id, ok)
		}
	}
}

// P2.2
func TestHexAsLibrary(t *testing.T) {
	for _, id := range manyIds() {
		if h, want := Hex(id), hex.EncodeToString(id[:]); h != want {
			t.Errorf("Hex(%v): %s, not %s", id, h, want)
		}
	}
}

// P2.3: Unhex inverts Hex, in both directions.
func TestUnhexInverts(t *testing.T) {
	for _, id := range manyIds() {
		h := Hex(id)
		got, ok := Unhex(h)
		if got != id || !ok {
			t.Errorf("Unhex(%s): %v, %v", h, got, ok)
		}
		if Hex(got) != h {
			t.Errorf("Hex(Unhex(%s)): %s", h, Hex(got))
		}
	}
}

func checkNoHex(t *testing.T, s string) {
	t.Helper()
	if id, ok := Unhex(s); ok || id != (api.Id{}) {
		t.Errorf("Unhex(%.200q): %v, %v", s, id, ok)
	}
}

// P2.2: a text of any other length is none.
func TestUnhexOfOtherLength(t *testing.T) {
	for n := range 260 {
		if n != 64 {
			checkNoHex(t, strings.Repeat("1", n))
			checkNoHex(t, strings.Repeat("0", n))
		}
	}
	h := Hex(Sum("abc"))
	checkNoHex(t, h[1:])
	checkNoHex(t, h[:63])
	checkNoHex(t, h+"0")
	checkNoHex(t, h+"\n")
	checkNoHex(t, " "+h)
	checkNoHex(t, "0x"+h)
	checkNoHex(t, h+h)
	checkNoHex(t, strings.Repeat("1", 1<<16))
}

// P2.2: any byte but a lowercase digit, at any place.
func TestUnhexOfOtherBytes(t *testing.T) {
	h := []byte(Hex(Sum("abc")))
	for i := range h {
		for c := range 256 {
			s := bytes.Clone(h)
			s[i] = byte(c)
			if strings.IndexByte("0123456789abcdef", byte(c)) < 0 {
				checkNoHex(t, string(s))
				continue
			}
			id, ok := Unhex(string(s))
			if !ok || Hex(id) != string(s) {
				t.Errorf("Unhex(%s): %v, %v", s, id, ok)
			}
		}
	}
	checkNoHex(t, strings.ToUpper(string(h)))
	checkNoHex(t, strings.Repeat("\u00e9", 32))
	checkNoHex(t, strings.Repeat("\x00", 64))
}

func checkLess(t *testing.T, a, b api.Id, want bool) {
	t.Helper()
	if got := Less(a, b); got != want {
		t.Errorf("Less(%x, %x): %v", a, b, got)
	}
}

// P2.2: ids that differ in one byte only, the first and the last among them.
func TestLessByOneByte(t *testing.T) {
	base := api.Id([]byte(manyBytes(32, 1)))
	for i := range base {
		for _, pair := range [][2]byte{{0, 1}, {0, 255}, {1, 2}, {127, 128}, {9, 16}, {254, 255}} {
			low, high := base, base
			low[i], high[i] = pair[0], pair[1]
			checkLess(t, low, high, true)
			checkLess(t, high, low, false)
			checkLess(t, low, low, false)
		}
	}
}

// P2.2: the first byte that differs decides, whatever follows it.
func TestLessByFirstByteThatDiffers(t *testing.T) {
	for i := range 31 {
		for j := i + 1; j < 32; j++ {
			var low, high api.Id
			low[i], high[i] = 1, 2
			low[j] = 255
			checkLess(t, low, high, true)
			checkLess(t, high, low, false)
		}
	}
	checkLess(t, api.Id{}, api.Id{31: 1}, true)
	checkLess(t, api.Id{31: 255}, api.Id{0: 1}, true)
	checkLess(t, api.Id{}, api.Id{}, false)
}

// P2.2: for all pairs, as the library orders their bytes.
func TestLessAsLibrary(t *testing.T) {
	ids := manyIds()
	for _, a := range ids {
		for _, b := range ids {
			checkLess(t, a, b, bytes.Compare(a[:], b[:]) < 0)
		}
	}
}
