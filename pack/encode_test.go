package pack

import (
	"encoding/hex"
	"math"
	"slices"
	"strings"
	"testing"

	"knapsack/api"
	"knapsack/lz"
)

// P15.2
func TestEncodeWritten(t *testing.T) {
	base := api.Id{0: 'b', 31: 'e'}
	for _, c := range []struct {
		l    []Item
		want string
	}{
		{nil, "KNAP\x01\x00"},
		{[]Item{}, "KNAP\x01\x00"},
		{[]Item{{}}, "KNAP\x01\x01\x00\x01\x00"},
		{[]Item{{Data: "hi"}}, "KNAP\x01\x01\x00\x03\x00hi"},
		{[]Item{{Kind: Ref, Base: base, Data: "d"}}, "KNAP\x01\x01\x02b" + strings.Repeat("\x00", 30) + "e\x02\x00d"},
		{[]Item{{Data: "hi"}, {Kind: Ofs, Back: 1, Data: "x"}}, "KNAP\x01\x02\x00\x03\x00hi\x01\x01\x02\x00x"},
	} {
		checkEncode(t, c.l, sealed(c.want), api.OK)
	}
}

// P15.2: the sum of a pack of no items, as other programs work it out.
func TestEncodeNone(t *testing.T) {
	s, e := Encode(nil)
	if e != api.OK || hex.EncodeToString([]byte(s)) != "4b4e41500100"+"3fea031098a5a8a59035619e5e364671d913faf7f1e3e2af957f737760cd4b52" {
		t.Errorf("Encode: %x, %d", s, e)
	}
}

// P15.2: numbers of more than one byte, of items, back and of bytes.
func TestEncodeGreatNumbers(t *testing.T) {
	for _, n := range []int{127, 128, 129, 255, 256, 399, 400} {
		l := make([]Item, n)
		l[n-1] = Item{Kind: Ofs, Back: n - 1}
		want := sealed("KNAP\x01", number(uint64(n)), strings.Repeat("\x00\x01\x00", n-1), "\x01", number(uint64(n-1)), "\x01\x00")
		checkEncode(t, l, want, api.OK)
	}
	d := &draws{x: 1}
	for _, n := range []int{126, 127, 128, 300, 4095, 4096} {
		data := d.bytes(n)
		checkEncode(t, []Item{{Data: data}}, sealed("KNAP\x01\x01\x00", number(uint64(n+1)), "\x00", data), api.OK)
	}
}

// P15.2: Data is packed as lz.Pack does it.
func TestEncodePacks(t *testing.T) {
	for _, data := range []string{strings.Repeat("z", 4096), strings.Repeat("abc", 1000), "knapsack, knapsack, knapsack"} {
		packed := lz.Pack(data)
		if len(packed) >= len(data) {
			t.Fatalf("%.40q is not shortened", data)
		}
		l := []Item{{Data: data}, {Kind: Ofs, Back: 1, Data: data}, {Kind: Ref, Data: data}}
		checkEncode(t, l, packOf(3, full(packed), ofs(1, packed), refTo(api.Id{}, packed)), api.OK)
	}
}

// P15.2, P15.3
func TestEncodeAsTold(t *testing.T) {
	for _, l := range validLists() {
		s := toldPack(l)
		checkEncode(t, l, s, api.OK)
		var encodings []string
		for _, x := range l {
			encodings = append(encodings, toldEncoding(x))
		}
		checkRead(t, s, l, encodings...)
	}
}

// wrongItems are not valid, however many items are before them.
func wrongItems() []Item {
	long := strings.Repeat("x", 4097)
	l := []Item{
		{Back: 1}, {Back: -1}, {Back: math.MaxInt}, {Back: math.MinInt}, {Base: api.Id{0: 1}}, {Base: api.Id{31: 1}}, {Back: 1, Base: api.Id{1}}, {Data: long},
		{Kind: Ofs}, {Kind: Ofs, Back: -1}, {Kind: Ofs, Back: math.MinInt}, {Kind: Ofs, Back: math.MaxInt}, {Kind: Ofs, Back: 400}, {Kind: Ofs, Back: 1 << 32},
		{Kind: Ofs, Back: 1, Base: api.Id{0: 1}}, {Kind: Ofs, Back: 1, Base: api.Id{31: 1}}, {Kind: Ofs, Back: 1, Data: long},
		{Kind: Ref, Back: 1}, {Kind: Ref, Back: -1}, {Kind: Ref, Back: 1, Base: api.Id{1}}, {Kind: Ref, Base: api.Id{1}, Data: long},
		{Data: strings.Repeat("x", 1<<20)},
	}
	for _, kind := range []int{-1, 3, 4, 255, 256, 257, 258, -256, -255, 1 << 32, math.MaxInt, math.MinInt} {
		l = append(l, Item{Kind: kind}, Item{Kind: kind, Data: "x"}, Item{Kind: kind, Back: 1}, Item{Kind: kind, Base: api.Id{1}})
	}
	return l
}

// P15.2: each wrong item alone, and at the first, a middle and the last place of a list.
func TestEncodeWrong(t *testing.T) {
	d := &draws{x: 2}
	for _, x := range wrongItems() {
		checkEncode(t, []Item{x}, "", api.ErrArg)
		l := make([]Item, 10)
		for i := range l {
			l[i] = d.item(i, 20)
		}
		for _, i := range []int{0, 5, 9} {
			wrong := slices.Clone(l)
			wrong[i] = x
			checkEncode(t, wrong, "", api.ErrArg)
		}
	}
}

// P15.2: an Ofs may go back to the first item, no farther.
func TestEncodeBack(t *testing.T) {
	for i := range 12 {
		for back := -2; back < 15; back++ {
			l := make([]Item, 12)
			l[i] = Item{Kind: Ofs, Back: back}
			want, e := toldPack(l), api.OK
			if back < 1 || back > i {
				want, e = "", api.ErrArg
			}
			checkEncode(t, l, want, e)
		}
	}
}

// P15.2: the number of items.
func TestEncodeMost(t *testing.T) {
	for _, x := range []Item{{}, {Data: "x"}, {Kind: Ref}} {
		checkEncode(t, slices.Repeat([]Item{x}, 400), toldPack(slices.Repeat([]Item{x}, 400)), api.OK)
		for _, n := range []int{401, 402, 800, 1000} {
			checkEncode(t, slices.Repeat([]Item{x}, n), "", api.ErrArg)
		}
	}
}

// listOf is a list whose pack has just so many bytes; it cannot be shortened.
func listOf(t *testing.T, size int) []Item {
	t.Helper()
	d := &draws{x: 3}
	var l []Item
	for range size / 3036 { // an item of 3000 bytes takes 3036
		l = append(l, Item{Kind: Ref, Base: d.id(), Data: d.bytes(3000)})
	}
	l = append(l, Item{})
	l[len(l)-1].Data = d.bytes(size - len(toldPack(l)) - 1) // its length takes one byte more
	if n := len(toldPack(l)); n != size {
		t.Fatalf("the pack has %d bytes, not %d", n, size)
	}
	return l
}

// P15.2, P15.1: a pack of just as many bytes as may be, and of one more.
func TestMostBytes(t *testing.T) {
	for _, size := range []int{api.MaxPack - 1, api.MaxPack} {
		l := listOf(t, size)
		s := toldPack(l)
		checkEncode(t, l, s, api.OK)
		if got, e := Decode(s); !slices.Equal(got, l) || e != api.OK {
			t.Errorf("Decode of %d bytes: %d", size, e)
		}
		checkAsTold(t, s)
	}
	for _, size := range []int{api.MaxPack + 1, api.MaxPack + 2, api.MaxPack + 31, api.MaxPack + 32, api.MaxPack + 33, api.MaxPack + 100} {
		l := listOf(t, size)
		checkEncode(t, l, "", api.ErrLimit)
		checkWrong(t, toldPack(l), api.ErrLimit)
	}
}

// P15.2: the bytes of the pack count, not those of Data; and a wrong item comes before too many bytes.
func TestEncodeLimit(t *testing.T) {
	d := &draws{x: 4}
	short := slices.Repeat([]Item{{Data: strings.Repeat("s", 4096)}}, 400)
	checkEncode(t, short, toldPack(short), api.OK)
	long := slices.Repeat([]Item{{Data: d.bytes(4096)}}, 400)
	checkEncode(t, long, "", api.ErrLimit)
	checkEncode(t, append(slices.Clone(long), Item{}), "", api.ErrArg)
	for _, x := range wrongItems() {
		long[399] = x
		checkEncode(t, long, "", api.ErrArg)
	}
}

// P15.2: what Data says is not looked at.
func TestEncodeAnyData(t *testing.T) {
	for b := range 256 {
		for _, data := range []string{string([]byte{byte(b)}), strings.Repeat(string([]byte{byte(b)}), 300)} {
			l := []Item{{Data: data}, {Kind: Ofs, Back: 1, Data: data}, {Kind: Ref, Base: api.Id{byte(b)}, Data: data}}
			checkEncode(t, l, toldPack(l), api.OK)
			if got, e := Decode(toldPack(l)); !slices.Equal(got, l) || e != api.OK {
				t.Errorf("Decode of the byte %d: %d", b, e)
			}
		}
	}
}
