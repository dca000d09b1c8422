package lz

import (
	"bytes"
	"encoding/binary"

	"knapsack/api"
)

// This file is the chapter a second time, worked out without the package's own code and without the layer below it, and the strings on which the tests try both.

// toldUnpack is what the chapter's words make of a packed string, one byte of the output after the other.
func toldUnpack(s string, most int) (string, api.Errno) {
	if most < 0 {
		return "", api.ErrArg
	}
	if len(s) == 0 || s[0] > 1 {
		return "", api.ErrForm
	}
	if s[0] == 0 {
		if len(s)-1 > most {
			return "", api.ErrLimit
		}
		return s[1:], api.OK
	}
	var out []byte
	for in := bytes.NewBufferString(s[1:]); in.Len() > 0; {
		more, ok := toldStep(in, out, most-len(out))
		if !ok {
			return "", api.ErrForm
		}
		if len(out)+len(more) > most {
			return "", api.ErrLimit
		}
		out = append(out, more...)
	}
	return string(out), api.OK
}

// toldStep are the bytes that the next step produces, but no more than room and one.
func toldStep(in *bytes.Buffer, out []byte, room int) (more []byte, ok bool) {
	n, ok := toldNumber(in)
	if !ok {
		return nil, false
	}
	if n&1 == 0 {
		more = in.Next(int(min(n>>1, 1<<40)))
		return more, n > 0 && uint64(len(more)) == n>>1
	}
	far, ok := toldNumber(in)
	if !ok || n>>1 <= 3 || far == 0 || far >= 65536 || far > uint64(len(out)) {
		return nil, false
	}
	back := out[uint64(len(out))-far:]
	for i := uint64(0); i < n>>1 && len(more) <= room; i++ {
		more = append(more, back[i%far])
	}
	return more, true
}

// toldNumber is the next number, if its bytes are just those in which the library writes it.
func toldNumber(in *bytes.Buffer) (uint64, bool) {
	n, size := binary.Uvarint(in.Bytes())
	if size <= 0 || !bytes.Equal(in.Next(size), binary.AppendUvarint(nil, n)) {
		return 0, false
	}
	return n, true
}

// bySteps is a packed string of format 1 of these steps.
func bySteps(steps ...string) string {
	s := "\x01"
	for _, x := range steps {
		s += x
	}
	return s
}

// literal is the step that copies a text.
func literal(text string) string {
	return number(2*uint64(len(text))) + text
}

// match is the step that copies count bytes from far back, permitted or not.
func match(count, far uint64) string {
	return number(2*count+1) + number(far)
}

func number(n uint64) string {
	return string(binary.AppendUvarint(nil, n))
}

// manyBytes are n bytes without a pattern.
func manyBytes(n int, seed uint64) string {
	b := make([]byte, n)
	for i := range b {
		seed = seed*6364136223846793005 + 1442695040888963407
		b[i] = byte(seed >> 56)
	}
	return string(b)
}

// fewLetters are n bytes of so many letters, without a pattern.
func fewLetters(n, letters int, seed uint64) string {
	b := []byte(manyBytes(n, seed))
	for i := range b {
		b[i] = 'a' + b[i]%byte(letters)
	}
	return string(b)
}

// allStrings calls try with every string of at most n of these letters.
func allStrings(letters string, n int, try func(s string)) {
	level := []string{""}
	for range n + 1 {
		var next []string
		for _, s := range level {
			try(s)
			for i := range len(letters) {
				next = append(next, s+letters[i:i+1])
			}
		}
		level = next
	}
}
