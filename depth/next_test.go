package depth

import (
	"slices"
	"testing"

	"knapsack/api"
)

// P13.1: the chapter's example, with any ids and in any order.
func TestNextExample(t *testing.T) {
	ids := list(numbered(1), numbered(2), numbered(3), api.Id{}, api.Id{0: 255}, api.Id{31: 1})
	for _, a := range ids {
		for _, b := range ids {
			for _, c := range ids {
				if a == b || b == c || a == c {
					continue
				}
				checkNext(t, list(a, b), list(c), list(a), b, c)
				checkNext(t, list(b, a), list(c), list(a), b, c)
			}
		}
	}
}

// P13.1: one id, in each of the lists or not: what is shallow stays, even if it is deep as well.
func TestNextOfOne(t *testing.T) {
	a, other := numbered(1), numbered(2)
	one := list(a)
	checkNext(t, nil, nil, nil)
	checkNext(t, one, nil, nil, a)
	checkNext(t, nil, one, nil, a)
	checkNext(t, one, one, nil, a)
	checkNext(t, nil, nil, one)
	checkNext(t, one, nil, one)
	checkNext(t, nil, one, one, a)
	checkNext(t, one, one, one, a)
	checkNext(t, one, nil, list(other), a)
	checkNext(t, nil, one, list(other), a)
	checkNext(t, []api.Id{}, []api.Id{}, []api.Id{})
	checkNext(t, list(api.Id{}), nil, nil, api.Id{})
	checkNext(t, list(api.Id{}), nil, list(api.Id{}))
}

// P13.1: each once, however often it is given.
func TestNextEachOnce(t *testing.T) {
	a, b, c := numbered(1), numbered(2), numbered(3)
	checkNext(t, list(a, a, a), nil, nil, a)
	checkNext(t, nil, list(a, a), nil, a)
	checkNext(t, list(a, b, a), list(b, c, b), nil, a, b, c)
	checkNext(t, list(a, b, a), list(c, c), list(a), b, c)
	checkNext(t, list(a, b, a, b), nil, list(a, a, c), b)
	checkNext(t, list(c, b, a), list(a, b, c), list(c, c), a, b, c)
}

// P13.1: ids that differ in one byte only are different, and ordered by it.
func TestNextOfNearIds(t *testing.T) {
	base := numbered(100)
	for i := range base {
		less, more := base, base
		less[i], more[i] = base[i]-1, base[i]+1
		if less[i] == 255 || more[i] == 0 {
			less[i], base[i], more[i] = 5, 128, 200
		}
		checkNext(t, list(more, base, less), nil, nil, less, base, more)
		checkNext(t, list(more, less), list(base), list(base), less, base, more)
		checkNext(t, list(more, base, less), nil, list(base), less, more)
		checkNext(t, list(base), list(more), list(less), base, more)
		if got := Next(list(more), list(less), nil); !slices.Equal(got, list(less, more)) {
			t.Errorf("Next: %x", got)
		}
	}
}

// P13.1: many lists, against the second reading.
func TestNextMany(t *testing.T) {
	d := &draws{x: 1300}
	var ids []api.Id
	for i := range 40 {
		ids = append(ids, numbered(7*i))
	}
	for i := range 3000 {
		n := 1 + i%60
		old, shallow, deep := d.some(n, ids), d.some(n, ids), d.some(n, ids)
		checkNext(t, old, shallow, deep, toldNext(old, shallow, deep)...)
		checkNext(t, old, nil, deep, toldNext(old, nil, deep)...)
		checkNext(t, old, shallow, old, toldNext(nil, shallow, nil)...)
	}
}

// P0: the result is new memory, and what lies behind the ends of the lists is not touched.
func TestNextMemory(t *testing.T) {
	a, b, c := numbered(1), numbered(2), numbered(3)
	old, shallow, deep := list(b, a, c), list(c, b, a), list(b, c, a)
	old2, shallow2, deep2 := slices.Clone(old), slices.Clone(shallow), slices.Clone(deep)
	for i := range 4 {
		for j := range 4 {
			for k := range 4 {
				got := Next(old[:i], shallow[:j], deep[:k])
				for m := range got {
					got[m] = numbered(9)
				}
				_ = append(append(got, numbered(8)), numbered(7))
				if !slices.Equal(old, old2) || !slices.Equal(shallow, shallow2) || !slices.Equal(deep, deep2) {
					t.Fatalf("Next of %d, %d, %d changed its lists: %x, %x, %x", i, j, k, old, shallow, deep)
				}
			}
		}
	}
}
