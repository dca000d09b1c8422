package delta

import (
	"math"

	"knapsack/api"
	"knapsack/varint"
)

// follow measures the target before it produces a byte of it: few steps may ask for more bytes than there is memory, and a later step's error is still to be found.
func follow(base, steps string, target int) (string, api.Errno) {
	if !measures(base, steps, target) {
		return "", api.ErrForm
	}
	if target > math.MaxInt32 {
		// no promise speaks of such a result, but the call must not panic for want of memory
		return "", api.ErrLimit
	}
	return produce(base, steps, target), api.OK
}

// measures tells whether all steps are well formed and produce just target bytes.
func measures(base, steps string, target int) bool {
	left := target
	for steps != "" {
		piece, rest, ok := takeStep(base, steps)
		if !ok || len(piece) > left {
			return false
		}
		left -= len(piece)
		steps = rest
	}
	return left == 0
}

// produce is the target of steps that were measured.
func produce(base, steps string, target int) string {
	out := make([]byte, 0, target)
	for steps != "" {
		piece, rest, _ := takeStep(base, steps)
		out = append(out, piece...)
		steps = rest
	}
	return string(out)
}

// takeStep is what the first step appends, and the steps behind it.
func takeStep(base, steps string) (piece, rest string, ok bool) {
	n, rest, e := varint.Get(steps)
	if e != api.OK {
		return "", "", false
	}
	if n%2 == 0 {
		return takeLiteral(n/2, rest)
	}
	return takeCopy(base, (n-1)/2, rest)
}

func takeLiteral(count uint64, data string) (piece, rest string, ok bool) {
	if count < 1 || count > uint64(len(data)) {
		return "", "", false
	}
	return data[:count], data[count:], true
}

func takeCopy(base string, count uint64, data string) (piece, rest string, ok bool) {
	from, rest, e := varint.Get(data)
	if e != api.OK || count < 1 {
		return "", "", false
	}
	// The end is not added up: of great numbers the sum would wrap round.
	if from > uint64(len(base)) || count > uint64(len(base))-from {
		return "", "", false
	}
	return base[from : from+count], rest, true
}
