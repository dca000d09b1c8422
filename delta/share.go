package delta

import "knapsack/varint"

const (
	least = 4  // bytes of a copy: of fewer, the step saves nothing
	tries = 32 // places of the base that are tried for one copy, so that a base of one repeated byte takes no long search
	none  = -1
)

// share writes text as steps that copy what it has in common with base.
func share(base, text string) string {
	places := findPlaces(base)
	var out []byte
	written, at := 0, 0
	for at < len(text) {
		from, count := places.longest(base, text[at:])
		if count == 0 {
			at++
			continue
		}
		out = append(out, literalStep(text[written:at])...)
		out = append(out, copyStep(from, count)...)
		at += count
		written = at
	}
	return string(append(out, literalStep(text[written:])...))
}

// places tells where in a base the same bytes, least of them, occur.
type places struct {
	first map[string]int // the first place of these bytes
	next  []int          // for each place the next one of the same bytes, or none
}

// findPlaces goes from the base's end to its start, so that each chain begins with its first place: then a text that equals its base is found at 0 before the tries are used up, and is one copy.
func findPlaces(base string) places {
	count := max(len(base)-least+1, 0)
	p := places{first: map[string]int{}, next: make([]int, count)}
	for at := count - 1; at >= 0; at-- {
		key := base[at : at+least]
		p.next[at] = none
		if later, ok := p.first[key]; ok {
			p.next[at] = later
		}
		p.first[key] = at
	}
	return p
}

// longest tells from where in base the most bytes that text begins with can be copied, and how many; of none it tells 0.
func (p places) longest(base, text string) (from, count int) {
	if len(text) < least {
		return 0, 0
	}
	at, ok := p.first[text[:least]]
	if !ok {
		return 0, 0
	}
	for try := 0; try < tries && at != none; try++ {
		if n := common(base[at:], text); n > count {
			from, count = at, n
		}
		at = p.next[at]
	}
	return from, count
}

// common is how many bytes both begin with.
func common(a, b string) int {
	n := 0
	for n < len(a) && n < len(b) && a[n] == b[n] {
		n++
	}
	return n
}

// literalStep is nothing for no bytes, because a literal has at least one.
func literalStep(text string) string {
	if text == "" {
		return ""
	}
	return varint.Put(2*uint64(len(text))) + text
}

func copyStep(from, count int) string {
	return varint.Put(2*uint64(count)+1) + varint.Put(uint64(from))
}
