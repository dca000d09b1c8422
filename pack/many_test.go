package pack

import (
	"slices"
	"testing"

	"knapsack/api"
)

// changed is s with a byte changed, put in, or taken out, mostly at one that makes a difference.
func (d *draws) changed(s string) string {
	i := d.below(len(s) + 1)
	b := string([]byte{[]byte{0, 1, 2, 3, 127, 128, 129, 255, byte(d.below(256))}[d.below(9)]})
	switch {
	case d.below(4) == 0:
		return s[:i] + b + s[i:]
	case i == len(s):
		return s + b
	case d.below(3) == 0:
		return s[:i] + s[i+1:]
	}
	return s[:i] + b + s[i+1:]
}

// P15.1: packs with some bytes changed, and the sum made anew, against the second reading.
func TestManyChanged(t *testing.T) {
	d := &draws{x: 6}
	counts := map[api.Errno]int{}
	for range 300 {
		l := d.items(1+d.below(6), 30)
		s := toldPack(l)
		for range 60 {
			inner := s[5 : len(s)-32]
			for range 1 + d.below(3) {
				inner = d.changed(inner)
			}
			counts[checkAsTold(t, sealed("KNAP\x01", inner))]++
		}
	}
	if counts[api.OK] < 500 || counts[api.ErrForm] < 500 || counts[api.ErrLimit] < 20 {
		t.Errorf("too few of one sort: %v", counts)
	}
}

// P15.1: all packs of a few bytes.
func TestAllShort(t *testing.T) {
	letters := []string{"\x00", "\x01", "\x02", "\x03", "\x04", "\x80", "\x90", "a"}
	counts := map[api.Errno]int{}
	level := []string{""}
	for range 6 {
		var next []string
		for _, s := range level {
			counts[checkAsTold(t, sealed("KNAP\x01", s))]++
			for _, x := range letters {
				next = append(next, s+x)
			}
		}
		level = next
	}
	if counts[api.OK] == 0 || counts[api.ErrForm] == 0 || counts[api.ErrLimit] == 0 {
		t.Errorf("not of all sorts: %v", counts)
	}
}

// P15.1, P0: bytes of any sort end in an error, not in a panic.
func TestAnyBytes(t *testing.T) {
	d := &draws{x: 7}
	for n := range 400 {
		checkWrong(t, d.bytes(n), api.ErrForm)
		checkAsTold(t, "KNAP\x01"+d.bytes(n))
		checkAsTold(t, sealed("KNAP\x01", d.bytes(n)))
		checkAsTold(t, sealed("KNAP\x01\x02", d.bytes(n)))
		checkAsTold(t, sealed("KNAP\x01\x01\x00", d.bytes(n)))
	}
}

// P15.3: Decode inverts Encode, and the items lie one directly after the other, up to the sum.
func TestInverse(t *testing.T) {
	d := &draws{x: 8}
	for n := range 120 {
		l := d.items(n, []int{0, 5, 200, 4096}[n%4])
		s, e := Encode(l)
		if e != api.OK {
			t.Fatalf("Encode of %d items: %d", n, e)
		}
		if got, e := Decode(s); !slices.Equal(got, l) || e != api.OK {
			t.Fatalf("Decode of %d items: %d of them, %d", n, len(got), e)
		}
		places, e := Places(s)
		if len(places) != n || e != api.OK {
			t.Fatalf("Places of %d items: %d of them, %d", n, len(places), e)
		}
		end := 5 + len(number(uint64(n)))
		for i, p := range places {
			if p.At != end || s[p.At:p.At+p.Len] != toldEncoding(l[i]) {
				t.Fatalf("item %d lies at %v, not from %d on", i, p, end)
			}
			end = p.At + p.Len
		}
		if end != len(s)-32 {
			t.Fatalf("the items end at %d, not at %d", end, len(s)-32)
		}
	}
}

// P15.3: what Decode accepts, Encode makes a pack of again, unless that has too many bytes.
func TestAgain(t *testing.T) {
	d := &draws{x: 9}
	again := 0
	for range 300 {
		l := d.items(1+d.below(5), 40)
		s := toldPack(l)
		items, e := Decode(sealed("KNAP\x01", d.changed(s[5:len(s)-32])))
		if e != api.OK {
			continue
		}
		again++
		s, e = Encode(items)
		if got, f := Decode(s); e != api.OK || !slices.Equal(got, items) || f != api.OK {
			t.Errorf("Encode of %d items: %d, Decode %d", len(items), e, f)
		}
	}
	if again < 50 {
		t.Errorf("only %d", again)
	}
}

// P0 (R3): what a caller changes in an answer is not seen in another one, nor in the arguments.
func TestResultsAreNew(t *testing.T) {
	d := &draws{x: 10}
	l := d.items(30, 100)
	s := toldPack(l)
	a, _ := Decode(s)
	p, _ := Places(s)
	p2 := slices.Clone(p)
	clear(a[:cap(a)])
	clear(p[:cap(p)])
	if got, e := Decode(s); !slices.Equal(got, l) || e != api.OK {
		t.Errorf("Decode: %d", e)
	}
	if got, e := Places(s); !slices.Equal(got, p2) || e != api.OK {
		t.Errorf("Places: %v, %d", got, e)
	}
	checkEncode(t, l, s, api.OK)
}

// P0 (R4): the same arguments lead to the same results, whatever was asked between.
func TestSameAgain(t *testing.T) {
	lists := validLists()
	var packs []string
	for _, l := range lists {
		s, _ := Encode(l)
		packs = append(packs, s)
	}
	for i := len(lists) - 1; i >= 0; i-- {
		checkEncode(t, lists[i], packs[i], api.OK)
		if got, e := Decode(packs[i]); !slices.Equal(got, lists[i]) || e != api.OK {
			t.Errorf("Decode of list %d: %d", i, e)
		}
	}
}
