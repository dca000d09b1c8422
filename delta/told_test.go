package delta

import (
	"bytes"
	"encoding/binary"
	"math"

	"knapsack/api"
)

// This file is the chapter a second time, worked out without the package's own code and without the layer below it, and the strings on which the tests try both.

// toldApply is what the chapter's words make of a base and a delta, one byte of the target after the other.
func toldApply(base, d string, most int) (string, api.Errno) {
	if most < 0 {
		return "", api.ErrArg
	}
	in := bytes.NewBufferString(d)
	before, ok := toldNumber(in)
	if !ok {
		return "", api.ErrForm
	}
	after, ok := toldNumber(in)
	if !ok {
		return "", api.ErrForm
	}
	if before != uint64(len(base)) {
		return "", api.ErrBase
	}
	if after > uint64(most) {
		return "", api.ErrLimit
	}
	var out []byte
	for in.Len() > 0 {
		if out, ok = toldStep(in, base, out); !ok {
			return "", api.ErrForm
		}
	}
	if uint64(len(out)) != after {
		return "", api.ErrForm
	}
	return string(out), api.OK
}

// toldStep is the target with what the next step appends to it.
func toldStep(in *bytes.Buffer, base string, out []byte) ([]byte, bool) {
	n, ok := toldNumber(in)
	if !ok || n < 2 {
		return nil, false
	}
	if n&1 == 0 {
		for range n >> 1 {
			b, err := in.ReadByte()
			if err != nil {
				return nil, false
			}
			out = append(out, b)
		}
		return out, true
	}
	offset, ok := toldNumber(in)
	if !ok {
		return nil, false
	}
	for range n >> 1 {
		if offset >= uint64(len(base)) {
			return nil, false
		}
		out = append(out, base[offset])
		offset++
	}
	return out, true
}

// toldSize is what the chapter's words make of a delta's beginning.
func toldSize(d string) (int, api.Errno) {
	in := bytes.NewBufferString(d)
	_, first := toldNumber(in)
	n, second := toldNumber(in)
	if !first || !second || n > math.MaxInt32 {
		return 0, api.ErrForm
	}
	return int(n), api.OK
}

// toldNumber is the next number, if its bytes are just those in which the library writes it.
func toldNumber(in *bytes.Buffer) (uint64, bool) {
	n, size := binary.Uvarint(in.Bytes())
	if size <= 0 || !bytes.Equal(in.Next(size), binary.AppendUvarint(nil, n)) {
		return 0, false
	}
	return n, true
}

// written is a delta of these two numbers and these steps.
func written(before, after int, steps ...string) string {
	s := number(uint64(before)) + number(uint64(after))
	for _, x := range steps {
		s += x
	}
	return s
}

// literal is the step that appends a text.
func literal(text string) string {
	return number(2*uint64(len(text))) + text
}

// copied is the step that appends count bytes of the base from an offset, permitted or not.
func copied(count, from uint64) string {
	return number(2*count+1) + number(from)
}

func number(n uint64) string {
	return string(binary.AppendUvarint(nil, n))
}

// manyBytes are n bytes without a pattern.
func manyBytes(n int, seed uint64) string {
	b := make([]byte, n)
	for i := range b {
		seed = seed*6364136223846793005 + 1442695040888963407
		b[i] = byte(seed >> 56)
	}
	return string(b)
}

// fewLetters are n bytes of so many letters, without a pattern.
func fewLetters(n, letters int, seed uint64) string {
	b := []byte(manyBytes(n, seed))
	for i := range b {
		b[i] = 'a' + b[i]%byte(letters)
	}
	return string(b)
}

// allStrings calls try with every string of at most n of these letters.
func allStrings(letters string, n int, try func(s string)) {
	level := []string{""}
	for range n + 1 {
		var next []string
		for _, s := range level {
			try(s)
			for i := range len(letters) {
				next = append(next, s+letters[i:i+1])
			}
		}
		level = next
	}
}
