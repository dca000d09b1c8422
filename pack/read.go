package pack

import (
	"strings"

	"knapsack/api"
	"knapsack/lz"
	"knapsack/varint"
)

// read are the items of a pack and their places, or the first error.
func read(s string) ([]Item, []Place, api.Errno) {
	count, rest, e := open(s)
	if e != api.OK {
		return nil, nil, e
	}
	end := len(s) - sumBytes
	var items []Item
	var places []Place
	for i := range count {
		x, after, e := takeItem(rest, i)
		if e != api.OK {
			return nil, nil, e
		}
		items = append(items, x)
		places = append(places, Place{At: end - len(rest), Len: len(rest) - len(after)})
		rest = after
	}
	if rest != "" {
		return nil, nil, api.ErrForm
	}
	return items, places, api.OK
}

// open is the number of items that a pack tells, and what lies between it and the sum.
func open(s string) (count int, rest string, e api.Errno) {
	if len(s) > api.MaxPack {
		return 0, "", api.ErrLimit
	}
	if !strings.HasPrefix(s, start) || len(s) < len(start)+sumBytes {
		return 0, "", api.ErrForm
	}
	end := len(s) - sumBytes
	if sumOf(s[:end]) != s[end:] {
		return 0, "", api.ErrSum
	}
	n, rest, e := varint.Get(s[len(start):end])
	if e != api.OK {
		return 0, "", api.ErrForm
	}
	if n > api.MaxObjects {
		return 0, "", api.ErrLimit
	}
	return int(n), rest, api.OK
}

// takeItem is the item that s begins with, with so many items before it, and what is behind it.
func takeItem(s string, before int) (x Item, rest string, e api.Errno) {
	x, rest, ok := takeHead(s, before)
	if !ok {
		return Item{}, "", api.ErrForm
	}
	packed, rest, e := varint.Take(rest)
	if e != api.OK {
		return Item{}, "", api.ErrForm
	}
	data, e := lz.Unpack(packed, api.MaxObject)
	if e == api.ErrLimit {
		return Item{}, "", api.ErrLimit
	}
	if e != api.OK {
		return Item{}, "", api.ErrForm
	}
	x.Data = data
	return x, rest, api.OK
}

// takeHead is an item without its Data.
func takeHead(s string, before int) (x Item, rest string, ok bool) {
	if s == "" {
		return Item{}, "", false
	}
	switch rest = s[1:]; s[0] {
	case Full:
		return Item{Kind: Full}, rest, true
	case Ofs:
		return takeOfs(rest, before)
	case Ref:
		return takeRef(rest)
	}
	return Item{}, "", false
}

func takeOfs(s string, before int) (x Item, rest string, ok bool) {
	back, rest, e := varint.Get(s)
	// Compared as uint64: the told number may be more than an int holds.
	if e != api.OK || back < 1 || back > uint64(before) {
		return Item{}, "", false
	}
	return Item{Kind: Ofs, Back: int(back)}, rest, true
}

func takeRef(s string) (x Item, rest string, ok bool) {
	x = Item{Kind: Ref}
	if len(s) < len(x.Base) {
		return Item{}, "", false
	}
	copy(x.Base[:], s)
	return x, s[len(x.Base):], true
}
