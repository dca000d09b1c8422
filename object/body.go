package object

import (
	"strings"

	"knapsack/api"
	"knapsack/varint"
)

// oneByte are the bytes of a kind. Whoever asks has made sure that it is one of the four, so nothing of it is lost.
func oneByte(kind int) string {
	return string([]byte{byte(kind)})
}

// body is the body of an object whose fields are valid.
func body(o api.Object) string {
	switch o.Kind {
	case api.Blob:
		return o.Data
	case api.Tree:
		return treeBody(o.Entries)
	case api.Commit:
		return commitBody(o)
	case api.Tag:
		return oneByte(o.Of) + string(o.Target[:]) + varint.Text(o.Name)
	}
	return ""
}

func treeBody(entries []api.Entry) string {
	var b strings.Builder
	for _, e := range entries {
		b.WriteString(oneByte(e.Kind))
		b.WriteString(varint.Text(e.Name))
		b.WriteString(string(e.Id[:]))
	}
	return b.String()
}

func commitBody(o api.Object) string {
	var b strings.Builder
	b.WriteString(string(o.Tree[:]))
	b.WriteString(varint.Put(uint64(len(o.Parents))))
	for _, id := range o.Parents {
		b.WriteString(string(id[:]))
	}
	b.WriteString(varint.Put(uint64(o.Time)))
	b.WriteString(varint.Text(o.Text))
	return b.String()
}
