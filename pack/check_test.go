package pack

import (
	"slices"
	"testing"

	"knapsack/api"
)

func checkEncode(t *testing.T, l []Item, want string, e api.Errno) {
	t.Helper()
	l2 := slices.Clone(l)
	if s, ge := Encode(l); s != want || ge != e {
		t.Fatalf("Encode of %d items: %d bytes %.80x, %d, not %d bytes %.80x, %d", len(l), len(s), s, ge, len(want), want, e)
	}
	if !slices.Equal(l, l2) {
		t.Error("Encode changed its items")
	}
	if told, te := toldEncode(l); told != want || te != e {
		t.Fatalf("the second reading of %d items: %d bytes, %d, not %d bytes, %d", len(l), len(told), te, len(want), e)
	}
}

// checkRead is for a pack of these items, each with its encoding there.
func checkRead(t *testing.T, s string, items []Item, encodings ...string) {
	t.Helper()
	got, e := Decode(s)
	if !slices.Equal(got, items) || e != api.OK {
		t.Fatalf("Decode of %d bytes %.80x: %d items, %d, not %d items", len(s), s, len(got), e, len(items))
	}
	places, e := Places(s)
	if len(places) != len(items) || e != api.OK {
		t.Fatalf("Places of %d bytes %.80x: %d of them, %d", len(s), s, len(places), e)
	}
	end := 5 + len(number(uint64(len(items))))
	for i, p := range places {
		if p.At != end || p.Len != len(encodings[i]) || s[p.At:p.At+p.Len] != encodings[i] {
			t.Fatalf("item %d of %.80x lies at %v, not at %d, %d", i, s, p, end, len(encodings[i]))
		}
		end += p.Len
	}
	if end != len(s)-32 {
		t.Fatalf("the items of %.80x end at %d, not at %d", s, end, len(s)-32)
	}
	checkAsTold(t, s)
}

func checkWrong(t *testing.T, s string, want api.Errno) {
	t.Helper()
	if l, e := Decode(s); len(l) != 0 || e != want {
		t.Fatalf("Decode of %d bytes %.80x: %d items, %d, not %d", len(s), s, len(l), e, want)
	}
	checkAsTold(t, s)
}

// checkAsTold holds both calls against the second reading, and answers its error.
func checkAsTold(t *testing.T, s string) api.Errno {
	t.Helper()
	items, places, want := toldRead(s)
	if l, e := Decode(s); !slices.Equal(l, items) || e != want {
		t.Fatalf("Decode of %d bytes %.80x: %d items, %d, not %d items, %d", len(s), s, len(l), e, len(items), want)
	}
	if l, e := Places(s); !slices.Equal(l, places) || e != want {
		t.Fatalf("Places of %d bytes %.80x: %v, %d, not %v, %d", len(s), s, l, e, places, want)
	}
	return want
}
