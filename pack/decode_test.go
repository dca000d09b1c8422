package pack

import (
	"math"
	"slices"
	"strings"
	"testing"

	"knapsack/api"
	"knapsack/lz"
)

// P15.1
func TestDecodeWritten(t *testing.T) {
	base := api.Id{0: 'b', 31: 'e'}
	checkRead(t, sealed("KNAP\x01\x00"), nil)
	checkRead(t, sealed("KNAP\x01\x01\x00\x03\x00hi"), []Item{{Data: "hi"}}, "\x00\x03\x00hi")
	s := sealed("KNAP\x01\x03\x00\x05\x01\x02a\x0b\x01\x01\x01\x02\x00x\x02b" + strings.Repeat("\x00", 30) + "e\x01\x00")
	checkRead(t, s, []Item{{Data: "aaaaaa"}, {Kind: Ofs, Back: 1, Data: "x"}, {Kind: Ref, Base: base}},
		"\x00\x05\x01\x02a\x0b\x01", "\x01\x01\x02\x00x", "\x02b"+strings.Repeat("\x00", 30)+"e\x01\x00")
	p, e := Places(s)
	if !slices.Equal(p, []Place{{6, 7}, {13, 5}, {18, 35}}) || e != api.OK {
		t.Errorf("Places: %v, %d", p, e)
	}
}

// P15.1: too many bytes come before all else.
func TestTooManyBytes(t *testing.T) {
	good := sealed("KNAP\x01\x00")
	for _, n := range []int{1, 2, 1000, 1 << 20} {
		size := api.MaxPack + n
		checkWrong(t, strings.Repeat("x", size), api.ErrLimit)
		checkWrong(t, good+strings.Repeat("x", size-len(good)), api.ErrLimit)
		checkWrong(t, sealed(good, strings.Repeat("x", size-len(good)-32)), api.ErrLimit)
	}
	checkWrong(t, strings.Repeat("x", api.MaxPack), api.ErrForm)
	checkWrong(t, good+strings.Repeat("x", api.MaxPack-len(good)), api.ErrSum)
	checkWrong(t, sealed(good, strings.Repeat("x", api.MaxPack-len(good)-32)), api.ErrForm)
}

// P15.1: beginnings that are not as they must be, with the right sum and with a wrong one.
func TestBadStart(t *testing.T) {
	for _, start := range []string{"", "K", "KNA", "KNAP\x00", "KNAP\x02", "KNAP\x81\x00", "knap\x01", "KNAQ\x01", "XNAP\x01", "\x00KNAP\x01", "KNA\x01", "KNAPP\x01", "\x01KNAP", "PACK\x01", "KNAP\xff"} {
		for _, rest := range []string{"", "\x00", "\x01\x00\x01\x00", strings.Repeat("\x00", 100)} {
			checkWrong(t, sealed(start, rest), api.ErrForm)
			checkWrong(t, start+rest, api.ErrForm)
			checkWrong(t, start+rest+strings.Repeat("\x00", 32), api.ErrForm)
		}
	}
	checkWrong(t, "KNAP", api.ErrForm)
	checkWrong(t, sealed("KNAP"), api.ErrForm)
	for n := range 32 {
		checkWrong(t, "KNAP\x01"+strings.Repeat("\x00", n), api.ErrForm)
	}
	checkWrong(t, "KNAP\x01"+strings.Repeat("\x00", 32), api.ErrSum)
}

// P15.1: packs that are cut off anywhere.
func TestCutOff(t *testing.T) {
	for _, l := range smallLists() {
		s := toldPack(l)
		for i := range len(s) {
			want := api.ErrSum
			if i < 37 {
				want = api.ErrForm
			}
			checkWrong(t, s[:i], want)
		}
	}
}

// P15.1: a byte that is changed, or one more at the end.
func TestBadSum(t *testing.T) {
	for _, l := range smallLists() {
		s := toldPack(l)
		for i := range len(s) {
			for _, bit := range []byte{1, 64, 128} {
				b := []byte(s)
				b[i] ^= bit
				want := api.ErrSum
				if i < 5 {
					want = api.ErrForm
				}
				checkWrong(t, string(b), want)
			}
		}
		checkWrong(t, s+"\x00", api.ErrSum)
		checkWrong(t, s+s, api.ErrSum)
	}
}

// P15.1: a wrong sum comes before all that is wrong behind the beginning.
func TestSumFirst(t *testing.T) {
	for _, rest := range []string{"", "\x80", "\x80\x00", "\x91\x03", "\x01", "\x01\x03\x01\x00", "\x00x", "\x01\x00\x06\x01\x02a\x83\x40\x01"} {
		s := sealed("KNAP\x01", rest)
		if _, e := Decode(s); e == api.OK || e == api.ErrSum {
			t.Errorf("Decode of %x: %d", s, e)
		}
		checkWrong(t, s[:len(s)-1]+string([]byte{s[len(s)-1] ^ 1}), api.ErrSum)
		checkWrong(t, s[:len(s)-32]+strings.Repeat("\x00", 32), api.ErrSum)
	}
}

// P15.1: no number.
func TestNoNumber(t *testing.T) {
	for _, rest := range []string{
		"", "\x80", "\xff", "\x80\x80", "\x80\x00", "\x81\x00", "\x81\x80\x00", "\x90\x83\x00",
		strings.Repeat("\x80", 9) + "\x02", strings.Repeat("\xff", 10) + "\x01", strings.Repeat("\xff", 100),
	} {
		checkWrong(t, sealed("KNAP\x01", rest), api.ErrForm)
	}
	checkWrong(t, sealed("KNAP\x01\x81\x00\x00\x01\x00"), api.ErrForm)
}

// P15.1: the number does not reach into the sum, whose first byte would make it a great one, or a small one.
func TestNumberEndsAtSum(t *testing.T) {
	great, small := 0, 0
	for b := 128; b < 256; b++ {
		s := sealed("KNAP\x01", string([]byte{byte(b)}))
		checkWrong(t, s, api.ErrForm)
		switch first := s[len(s)-32]; {
		case first >= 4 && first < 128:
			great++
		case first > 0 && first < 4:
			small++
		}
	}
	if great == 0 || small == 0 {
		t.Errorf("%d are great, %d small", great, small)
	}
}

// P15.1: more items than may be, whether they are there or not.
func TestTooManyItems(t *testing.T) {
	for _, n := range []uint64{401, 402, 512, 1 << 14, 1<<31 - 1, 1 << 31, 1 << 32, 1<<32 + 1, 1<<63 - 1, 1 << 63, math.MaxUint64 - 1, math.MaxUint64} {
		checkWrong(t, packOf(n), api.ErrLimit)
		checkWrong(t, packOf(n, "\xff"), api.ErrLimit)
		checkWrong(t, packOf(n, strings.Repeat("\x00\x01\x00", 402)), api.ErrLimit)
	}
	checkRead(t, packOf(400, strings.Repeat("\x00\x01\x00", 400)), make([]Item, 400), slices.Repeat([]string{"\x00\x01\x00"}, 400)...)
}

// P15.1: fewer items, or more, than the number says.
func TestOtherNumber(t *testing.T) {
	for _, one := range []string{full(stored("")), full(stored("hi")), refTo(api.Id{1}, stored("x"))} {
		for there := range 8 {
			for n := range uint64(10) {
				s := packOf(n, strings.Repeat(one, there))
				if n != uint64(there) {
					checkWrong(t, s, api.ErrForm)
				} else if e := checkAsTold(t, s); e != api.OK {
					t.Errorf("%d items: %d", n, e)
				}
			}
		}
	}
	checkWrong(t, packOf(400, strings.Repeat("\x00\x01\x00", 399)), api.ErrForm)
	checkWrong(t, packOf(400, strings.Repeat("\x00\x01\x00", 401)), api.ErrForm)
}

// atEach tries an encoding of an item as the first, a middle and the last one of a pack.
func atEach(t *testing.T, encoding string, want api.Errno) {
	t.Helper()
	fine := full(stored("fine"))
	for before := range 4 {
		for after := range 3 {
			s := packOf(uint64(before+1+after), strings.Repeat(fine, before), encoding, strings.Repeat(fine, after))
			if want == api.OK {
				if e := checkAsTold(t, s); e != api.OK {
					t.Fatalf("Decode of %.80x: %d", s, e)
				}
			} else {
				checkWrong(t, s, want)
			}
		}
	}
}

// P15.1
func TestOtherKind(t *testing.T) {
	for kind := 3; kind < 256; kind++ {
		b := string([]byte{byte(kind)})
		atEach(t, b+text(stored("x")), api.ErrForm)
		atEach(t, b+number(1)+text(stored("x")), api.ErrForm)
		atEach(t, b+strings.Repeat("\x00", 32)+text(stored("x")), api.ErrForm)
	}
}

// P15.1: a Back of 0, greater than the number of items before it, or that is no number.
func TestBadBack(t *testing.T) {
	for before := range 6 {
		for back := range uint64(9) {
			s := packOf(uint64(before+1), strings.Repeat(full(stored("")), before), ofs(back, stored("d")))
			if back < 1 || back > uint64(before) {
				checkWrong(t, s, api.ErrForm)
				continue
			}
			l := append(make([]Item, before), Item{Kind: Ofs, Back: int(back), Data: "d"})
			checkRead(t, s, l, append(slices.Repeat([]string{full(stored(""))}, before), ofs(back, stored("d")))...)
		}
	}
	for _, back := range []uint64{0, 400, 1 << 31, 1 << 32, 1<<32 + 1, 1 << 63, 1<<63 + 1, math.MaxUint64 - 1, math.MaxUint64} {
		atEach(t, ofs(back, stored("d")), api.ErrForm)
		atEach(t, ofs(back, "\x01"+literal("a")+match(5000, 1)), api.ErrForm)
	}
	for _, back := range []string{"", "\x81\x00", "\x80\x00", "\x81\x80\x00", strings.Repeat("\x80", 9) + "\x02", strings.Repeat("\xff", 12)} {
		atEach(t, "\x01"+back+text(stored("d")), api.ErrForm)
	}
	most := strings.Repeat(full(stored("")), 399)
	if e := checkAsTold(t, packOf(400, most, ofs(399, stored("")))); e != api.OK {
		t.Errorf("Decode: %d", e)
	}
	checkWrong(t, packOf(400, most, ofs(400, stored(""))), api.ErrForm)
}

// P15.1: an item that is cut off anywhere.
func TestItemCutOff(t *testing.T) {
	for _, one := range []string{full(stored("hello")), ofs(1, stored("hello")), refTo(api.Id{0: 1, 31: 2}, stored("hello")), full(lz.Pack(strings.Repeat("x", 99)))} {
		for i := range len(one) {
			s := packOf(2, full(stored("first")), one[:i])
			checkWrong(t, s, api.ErrForm)
		}
		if e := checkAsTold(t, packOf(2, full(stored("first")), one)); e != api.OK {
			t.Errorf("Decode of %x: %d", one, e)
		}
	}
}

// P15.1: a string, a Back, or a Base that would end in the sum, or behind it.
func TestItemEndsAtSum(t *testing.T) {
	for n := range uint64(40) {
		checkWrong(t, packOf(1, "\x00", number(n+1)), api.ErrForm)
		checkWrong(t, packOf(1, "\x00", number(n+3), "\x00x"), api.ErrForm)
	}
	checkWrong(t, packOf(1, "\x02"), api.ErrForm)
	checkWrong(t, packOf(1, "\x02", strings.Repeat("b", 31)), api.ErrForm)
	checkWrong(t, packOf(1, "\x02", strings.Repeat("b", 32)), api.ErrForm)
	checkWrong(t, packOf(2, full(stored("")), "\x01\x81"), api.ErrForm)
	checkWrong(t, packOf(1), api.ErrForm)
}

// P15.1: no string.
func TestNoString(t *testing.T) {
	heads := []string{"\x00", "\x01\x01", "\x02" + strings.Repeat("b", 32)}
	for _, head := range heads {
		for _, s := range []string{
			"", "\x80", "\x80\x00", "\x83\x00\x00hi", number(4) + "\x00hi", number(1<<31) + "\x00hi", number(1<<63) + "\x00hi", number(math.MaxUint64) + "\x00hi",
			strings.Repeat("\x80", 9) + "\x02\x00hi", strings.Repeat("\xff", 12),
		} {
			checkWrong(t, packOf(2, full(stored("x")), head+s), api.ErrForm)
		}
	}
}

// P15.1: what lz.Unpack refuses.
func TestBadPacked(t *testing.T) {
	for _, packed := range []string{
		"", "\x02", "\x02hi", "\xff", "hi", "\x01\x00", "\x01\x00a", "\x01\x04a", "\x01\x02", "\x01\x80", "\x01\x82\x00a", "\x01\x01\x01",
		"\x01" + literal("a") + match(3, 1), "\x01" + literal("a") + match(4, 0), "\x01" + literal("a") + match(4, 2), "\x01" + match(4, 1), "\x01" + literal("a") + number(11),
		"\x01" + literal("a") + "\x83\x40", "\x01" + literal("a") + match(4, 1) + "\x00", "\x01" + literal("abcd") + match(4, 1<<16), "\x01" + literal("a") + match(4, math.MaxUint64),
		"\x01" + literal("a") + "\x0b\x81\x00",
	} {
		if _, e := lz.Unpack(packed, 4096); e != api.ErrForm {
			t.Fatalf("Unpack of %x: %d", packed, e)
		}
		atEach(t, full(packed), api.ErrForm)
		atEach(t, refTo(api.Id{1}, packed), api.ErrForm)
		checkWrong(t, packOf(2, full(stored("x")), ofs(1, packed)), api.ErrForm)
	}
}

// P15.1: Data of just as many bytes as may be, and of more.
func TestTooMuchData(t *testing.T) {
	for n := 4090; n < 4103; n++ {
		x := strings.Repeat("x", n)
		for _, packed := range []string{
			stored(x), "\x01" + literal(x), lz.Pack(x), "\x01" + literal("x") + match(uint64(n-1), 1),
			"\x01" + literal(x[:4080]) + match(uint64(n-4080), 4080), "\x01" + literal("x") + match(uint64(n-2), 1) + literal("x"),
		} {
			want, data := api.OK, x
			if n > 4096 {
				want, data = api.ErrLimit, ""
			}
			atEach(t, full(packed), want)
			atEach(t, refTo(api.Id{1}, packed), want)
			l, e := Decode(packOf(2, full(stored("")), ofs(1, packed)))
			if e != want || want == api.OK && (len(l) != 2 || l[1].Data != data) {
				t.Fatalf("Decode with Data of %d bytes: %d", n, e)
			}
		}
	}
	for _, n := range []uint64{4097, 1 << 20, 1<<31 - 1, 1 << 31, 1 << 40, 1<<63 - 1} {
		atEach(t, full("\x01"+literal("a")+match(n, 1)), api.ErrLimit)
	}
	atEach(t, full(stored(strings.Repeat("x", 1<<16))), api.ErrLimit)
}

// P15.1: of the steps, too, the first error counts.
func TestFirstStepCounts(t *testing.T) {
	over, bad := match(5000, 1), match(4, 60000)
	atEach(t, full("\x01"+literal("a")+over+bad), api.ErrLimit)
	atEach(t, full("\x01"+literal("a")+over+"\x80"), api.ErrLimit)
	atEach(t, full("\x01"+literal("a")+bad+over), api.ErrForm)
	atEach(t, full("\x01"+literal("a")+"\x00"+over), api.ErrForm)
}

// P15.1: the first item with an error counts, and all of them before what is left behind the last one.
func TestFirstItemCounts(t *testing.T) {
	fine, over := full(stored("fine")), full("\x01"+literal("a")+match(5000, 1))
	for _, bad := range []string{"\x03", "\x03\x01\x00", ofs(9, stored("")), ofs(0, stored("")), "\x00\x80", "\x00\x05\x00", full("\x02"), full(""), "\x02b"} {
		checkWrong(t, packOf(2, over, bad), api.ErrLimit)
		checkWrong(t, packOf(2, bad, over), api.ErrForm)
		checkWrong(t, packOf(4, fine, over, fine, bad), api.ErrLimit)
		checkWrong(t, packOf(4, fine, bad, fine, over), api.ErrForm)
		checkWrong(t, packOf(1, over, bad), api.ErrLimit)
	}
	checkWrong(t, packOf(1, over, "left"), api.ErrLimit)
	checkWrong(t, packOf(2, over), api.ErrLimit)
	checkWrong(t, packOf(400, over), api.ErrLimit)
	checkWrong(t, packOf(401, over), api.ErrLimit)
	checkWrong(t, packOf(1, fine, over), api.ErrForm)
}

// P15.1: bytes that are left.
func TestLeft(t *testing.T) {
	for _, l := range smallLists() {
		s := toldPack(l)
		for _, left := range []string{"\x00", "x", "\x00\x01\x00", "\x00\x01", "\xff", strings.Repeat("\x00", 32), sealed("KNAP\x01\x00")} {
			checkWrong(t, sealed(s[:len(s)-32], left), api.ErrForm)
		}
		checkWrong(t, sealed(s), api.ErrForm)
	}
}

// P15.1: any packed form that lz.Unpack accepts.
func TestAnyPacked(t *testing.T) {
	forms := []string{"\x01", stored("aaaaaaaa"), "\x01" + literal("aaaaaaaa"), "\x01" + literal("a") + match(7, 1), "\x01" + literal("aa") + match(6, 2), "\x01" + strings.Repeat(literal("a"), 8), "\x01" + literal("a") + match(4, 1) + literal("aaa")}
	for i, packed := range forms {
		data := "aaaaaaaa"
		if i == 0 {
			data = ""
		}
		l := []Item{{Data: data}, {Kind: Ofs, Back: 1, Data: data}, {Kind: Ref, Base: api.Id{5}, Data: data}}
		encodings := []string{full(packed), ofs(1, packed), refTo(api.Id{5}, packed)}
		checkRead(t, packOf(3, encodings...), l, encodings...)
	}
	d := &draws{x: 5}
	for n := range 40 {
		l := d.items(n, 500)
		var encodings []string
		for _, x := range l {
			packed := d.packed(x.Data)
			encodings = append(encodings, []string{full(packed), ofs(uint64(x.Back), packed), refTo(x.Base, packed)}[x.Kind])
		}
		checkRead(t, packOf(uint64(n), encodings...), l, encodings...)
	}
}
