package pack

import (
	"bytes"
	"crypto/sha256"
	"encoding/binary"
	"strings"

	"knapsack/api"
	"knapsack/lz"
)

// This file is the chapter a second time, worked out without the package's own code, and the items and packs on which the tests try both.

// sealed is a text with its sum behind it.
func sealed(parts ...string) string {
	s := strings.Join(parts, "")
	sum := sha256.Sum256([]byte(s))
	return s + string(sum[:])
}

func number(n uint64) string {
	return string(binary.AppendUvarint(nil, n))
}

func text(s string) string {
	return number(uint64(len(s))) + s
}

// packOf is a pack that tells a number of items and has these encodings, whether they are that many or not.
func packOf(n uint64, encodings ...string) string {
	return sealed("KNAP\x01", number(n), strings.Join(encodings, ""))
}

// full, ofs and refTo are encodings of items whose Data is packed in that way, right or wrong.
func full(packed string) string {
	return "\x00" + text(packed)
}

func ofs(back uint64, packed string) string {
	return "\x01" + number(back) + text(packed)
}

func refTo(base api.Id, packed string) string {
	return "\x02" + string(base[:]) + text(packed)
}

// stored is a packed form of any bytes.
func stored(data string) string {
	return "\x00" + data
}

// literal and match are steps of a packed form, which begins with a byte 1.
func literal(s string) string {
	return number(2*uint64(len(s))) + s
}

func match(count, far uint64) string {
	return number(2*count+1) + number(far)
}

func toldEncoding(x Item) string {
	packed := lz.Pack(x.Data)
	switch x.Kind {
	case 0:
		return full(packed)
	case 1:
		return ofs(uint64(x.Back), packed)
	}
	return refTo(x.Base, packed)
}

// toldPack is the pack of a list that is valid.
func toldPack(l []Item) string {
	var encodings []string
	for _, x := range l {
		encodings = append(encodings, toldEncoding(x))
	}
	return packOf(uint64(len(l)), encodings...)
}

// toldValid holds each item against one that has the fields of its kind alone.
func toldValid(l []Item) bool {
	for i, x := range l {
		own := Item{Kind: x.Kind, Data: x.Data}
		switch x.Kind {
		case 0:
		case 1:
			own.Back = x.Back
			if x.Back < 1 || i-x.Back < 0 {
				return false
			}
		case 2:
			own.Base = x.Base
		default:
			return false
		}
		if own != x || len(x.Data) > 4096 {
			return false
		}
	}
	return len(l) <= 400
}

func toldEncode(l []Item) (string, api.Errno) {
	if !toldValid(l) {
		return "", api.ErrArg
	}
	s := toldPack(l)
	if len(s) > 262144 {
		return "", api.ErrLimit
	}
	return s, api.OK
}

// toldRead reads a pack from one byte to the next, and leaves by a panic with the first error.
func toldRead(s string) (items []Item, places []Place, e api.Errno) {
	defer func() {
		if x := recover(); x != nil {
			items, places, e = nil, nil, x.(api.Errno)
		}
	}()
	ask := func(fine bool, e api.Errno) {
		if !fine {
			panic(e)
		}
	}
	ask(len(s) <= 262144, api.ErrLimit)
	ask(len(s) >= 37 && s[:4] == "KNAP" && s[4] == 1, api.ErrForm)
	in := bytes.NewBufferString(s[5 : len(s)-32])
	ask(sealed(s[:len(s)-32]) == s, api.ErrSum)
	some := func(n uint64) string {
		ask(n <= uint64(in.Len()), api.ErrForm)
		return string(in.Next(int(n)))
	}
	number := func() uint64 {
		n, size := binary.Uvarint(in.Bytes())
		ask(size > 0 && len(binary.AppendUvarint(nil, n)) == size, api.ErrForm)
		in.Next(size)
		return n
	}
	count := number()
	ask(count <= 400, api.ErrLimit)
	for i := range count {
		at := len(s) - 32 - in.Len()
		x := Item{Kind: int(some(1)[0])}
		switch x.Kind {
		case 0:
		case 1:
			back := number()
			ask(back != 0 && back <= i, api.ErrForm)
			x.Back = int(back)
		case 2:
			x.Base = api.Id([]byte(some(32)))
		default:
			ask(false, api.ErrForm)
		}
		packed := some(number())
		data, e := lz.Unpack(packed, 4096)
		ask(e == api.OK || e == api.ErrLimit, api.ErrForm)
		ask(e == api.OK, api.ErrLimit)
		x.Data = data
		items = append(items, x)
		places = append(places, Place{At: at, Len: len(s) - 32 - in.Len() - at})
	}
	ask(in.Len() == 0, api.ErrForm)
	return items, places, api.OK
}

// draws are numbers that are always the same ones for a seed.
type draws struct {
	x uint64
}

func (d *draws) below(n int) int {
	d.x = d.x*6364136223846793005 + 1442695040888963407
	return int(d.x>>33) % n
}

// bytes are n bytes without a pattern.
func (d *draws) bytes(n int) string {
	b := make([]byte, n)
	for i := range b {
		b[i] = byte(d.below(256))
	}
	return string(b)
}

func (d *draws) id() api.Id {
	return api.Id([]byte(d.bytes(32)))
}

// data are up to n bytes: without a pattern, all the same, or of few letters.
func (d *draws) data(n int) string {
	n = d.below(n + 1)
	switch d.below(3) {
	case 0:
		return d.bytes(n)
	case 1:
		return strings.Repeat("r", n)
	}
	return strings.Repeat("abcd"[:1+d.below(4)]+d.bytes(d.below(4)), n/7)
}

// item is valid with so many items before it.
func (d *draws) item(before, most int) Item {
	switch kind := d.below(3); {
	case kind == Ofs && before > 0:
		return Item{Kind: Ofs, Back: 1 + d.below(before), Data: d.data(most)}
	case kind == Ref:
		return Item{Kind: Ref, Base: d.id(), Data: d.data(most)}
	}
	return Item{Data: d.data(most)}
}

// items are a valid list of n, each with up to so many bytes.
func (d *draws) items(n, most int) []Item {
	var l []Item
	for i := range n {
		l = append(l, d.item(i, most))
	}
	return l
}

// packed is a packed form of data, not always the one of lz.Pack.
func (d *draws) packed(data string) string {
	switch d.below(4) {
	case 0:
		return lz.Pack(data)
	case 1:
		return stored(data)
	}
	s := "\x01"
	for len(data) > 0 {
		n := 1 + d.below(len(data))
		s += literal(data[:n])
		data = data[n:]
	}
	return s
}

// validLists are lists at the edges, and others.
func validLists() [][]Item {
	d := &draws{x: 15}
	l := [][]Item{
		nil,
		{{}},
		{{Data: "full"}},
		{{Kind: Ref}},
		{{Kind: Ref, Base: api.Id{0: 1}, Data: "\x00"}},
		{{Kind: Ref, Base: api.Id{31: 255}, Data: "KNAP\x01"}},
		{{Data: "full"}, {Kind: Ofs, Back: 1, Data: "delta"}, {Kind: Ref, Base: api.Id{0: 'b'}, Data: strings.Repeat("z", 4096)}},
		{{Kind: Ref, Data: "a"}, {Kind: Ofs, Back: 1}, {Kind: Ofs, Back: 2}, {Kind: Ofs, Back: 1}, {Kind: Ofs, Back: 4}},
		{{Data: strings.Repeat("x", 4096)}, {Data: d.bytes(4096)}, {Kind: Ofs, Back: 2, Data: d.bytes(4096)}, {Kind: Ref, Base: d.id(), Data: d.bytes(4096)}},
		{{Data: sealed("KNAP\x01\x00")}},
		make([]Item, 400),
		d.items(400, 300),
	}
	for _, n := range []int{1, 126, 127, 128, 129, 4094, 4095} {
		l = append(l, []Item{{Data: d.bytes(n)}, {Kind: Ofs, Back: 1, Data: strings.Repeat("y", n)}})
	}
	far := make([]Item, 400)
	for i := range far[1:] {
		far[1+i] = Item{Kind: Ofs, Back: 1 + i}
	}
	l = append(l, far)
	for n := range 60 {
		l = append(l, d.items(n, 4096), d.items(n, 9))
	}
	return l
}

// smallLists are those of validLists whose packs have few bytes, on which much can be tried.
func smallLists() [][]Item {
	var small [][]Item
	for _, l := range validLists() {
		if len(toldPack(l)) < 250 {
			small = append(small, l)
		}
	}
	return small
}
