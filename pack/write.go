package pack

import (
	"strings"

	"knapsack/api"
	"knapsack/lz"
	"knapsack/varint"
)

func valid(l []Item) bool {
	if len(l) > api.MaxObjects {
		return false
	}
	for i, x := range l {
		if len(x.Data) > api.MaxObject || !fieldsValid(x, i) {
			return false
		}
	}
	return true
}

// fieldsValid tells whether an item has the fields of its kind, and no others, with so many items before it.
func fieldsValid(x Item, before int) bool {
	switch x.Kind {
	case Full:
		return x.Back == 0 && x.Base == api.Id{}
	case Ofs:
		return x.Back >= 1 && x.Back <= before && x.Base == api.Id{}
	case Ref:
		return x.Back == 0
	}
	return false
}

// body is the number of items, and their encodings.
func body(l []Item) string {
	var b strings.Builder
	b.WriteString(varint.Put(uint64(len(l))))
	for _, x := range l {
		b.WriteString(encoding(x))
	}
	return b.String()
}

// encoding is that of a valid item, whose kind is one byte therefore.
func encoding(x Item) string {
	s := string([]byte{byte(x.Kind)})
	switch x.Kind {
	case Ofs:
		s += varint.Put(uint64(x.Back))
	case Ref:
		s += string(x.Base[:])
	}
	return s + varint.Text(lz.Pack(x.Data))
}
