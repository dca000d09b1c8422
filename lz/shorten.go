package lz

import "knapsack/varint"

// shorten writes s as steps. Each match is the longest one from where its first four bytes occurred last: so it takes the nearest, whose distance has the fewest bytes, and asks the map but once for a place.
func shorten(s string) string {
	last := map[string]int{}
	var out []byte
	written, at := 0, 0
	for at < len(s) {
		count, far := findMatch(s, at, last)
		if count == 0 {
			keepPlace(s, at, last)
			at++
			continue
		}
		out = append(out, literalStep(s[written:at])...)
		out = append(out, matchStep(count, far)...)
		for range count {
			keepPlace(s, at, last)
			at++
		}
		written = at
	}
	return string(append(out, literalStep(s[written:])...))
}

// findMatch tells how many bytes from at on are there before, and how far back; of none it tells 0.
func findMatch(s string, at int, last map[string]int) (count, far int) {
	if len(s)-at < Least {
		return 0, 0
	}
	from, ok := last[s[at:at+Least]]
	if !ok || at-from > MaxFar {
		return 0, 0
	}
	count = Least
	for at+count < len(s) && s[from+count] == s[at+count] {
		count++
	}
	return count, at - from
}

// keepPlace keeps at as the place at which its four bytes occurred last.
func keepPlace(s string, at int, last map[string]int) {
	if len(s)-at >= Least {
		last[s[at:at+Least]] = at
	}
}

// literalStep is nothing for no bytes, because a literal has at least one.
func literalStep(text string) string {
	if text == "" {
		return ""
	}
	return varint.Put(2*uint64(len(text))) + text
}

func matchStep(count, far int) string {
	return varint.Put(2*uint64(count)+1) + varint.Put(uint64(far))
}
