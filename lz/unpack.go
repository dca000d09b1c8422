package lz

import (
	"math"

	"knapsack/api"
	"knapsack/varint"
)

func unpackStored(data string, most int) (string, api.Errno) {
	if len(data) > most {
		return "", api.ErrLimit
	}
	return data, api.OK
}

// unpackSteps measures the output before it produces a byte of it: a step may ask for more bytes than there is memory, and a later step's error is still to be found.
func unpackSteps(data string, most int) (string, api.Errno) {
	total, e := measure(data, most)
	if e != api.OK {
		return "", e
	}
	if total > math.MaxInt32 {
		// no promise speaks of such a result, but the call must not panic for want of memory
		return "", api.ErrLimit
	}
	return produce(data, total), api.OK
}

// measure is the length of the output, or the first error of the steps.
func measure(data string, most int) (int, api.Errno) {
	total := 0
	for data != "" {
		st, rest, ok := takeStep(data, total)
		if !ok {
			return 0, api.ErrForm
		}
		if st.count > uint64(most-total) {
			return 0, api.ErrLimit
		}
		total += int(st.count)
		data = rest
	}
	return total, api.OK
}

// produce is the output of steps that were measured.
func produce(data string, total int) string {
	out := make([]byte, 0, total)
	for data != "" {
		st, rest, _ := takeStep(data, len(out))
		out = st.appendTo(out)
		data = rest
	}
	return string(out)
}

// step is a literal of count bytes, or, if far is above 0, a match of as many.
type step struct {
	count   uint64
	literal string
	far     int
}

// takeStep is the first step of data, and what is behind it; total is the length of the output so far.
func takeStep(data string, total int) (st step, rest string, ok bool) {
	n, rest, e := varint.Get(data)
	if e != api.OK {
		return step{}, "", false
	}
	if n%2 == 0 {
		return takeLiteral(n/2, rest)
	}
	return takeMatch((n-1)/2, rest, total)
}

func takeLiteral(count uint64, data string) (st step, rest string, ok bool) {
	if count < 1 || count > uint64(len(data)) {
		return step{}, "", false
	}
	return step{count: count, literal: data[:count]}, data[count:], true
}

func takeMatch(count uint64, data string, total int) (st step, rest string, ok bool) {
	far, rest, e := varint.Get(data)
	if e != api.OK || count < Least {
		return step{}, "", false
	}
	if far < 1 || far > MaxFar || far > uint64(total) {
		return step{}, "", false
	}
	return step{count: count, far: int(far)}, rest, true
}

// appendTo copies a match byte by byte, because it may reach into the bytes that it produces.
func (st step) appendTo(out []byte) []byte {
	if st.far == 0 {
		return append(out, st.literal...)
	}
	for range st.count {
		out = append(out, out[len(out)-st.far])
	}
	return out
}
