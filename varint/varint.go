// Package varint is layer 1: see shared/doc/01-varint.md.
package varint

import "knapsack/api"

const (
	groupBits = 7
	more      = 1 << groupBits // set in every byte but the last
	longest   = 10             // bytes of the greatest number
	topGroup  = 1              // what the last of ten bytes has at most: nine groups leave one bit of 64
)

// Put are a number's bytes: P1.1.
func Put(n uint64) string {
	var b []byte
	for n >= more {
		b = append(b, byte(n%more)|more)
		n >>= groupBits
	}
	return string(append(b, byte(n)))
}

// Get is the number that a text begins with: P1.1.
func Get(s string) (uint64, string, api.Errno) {
	var n uint64
	for i := 0; i < len(s) && i < longest; i++ {
		n |= uint64(s[i]%more) << (groupBits * i)
		if s[i] >= more {
			continue
		}
		if !mayEnd(s[i], i) {
			break
		}
		return n, s[i+1:], api.OK
	}
	return 0, "", api.ErrForm
}

// mayEnd tells whether b may be the last byte of an encoding, at index i. A zero there would be a group too many, and a great one at the end of ten bytes would not fit.
func mayEnd(b byte, i int) bool {
	if i > 0 && b == 0 {
		return false
	}
	return i < longest-1 || b <= topGroup
}

// Text are a text's bytes: P1.2.
func Text(t string) string {
	return Put(uint64(len(t))) + t
}

// Take is the text that a text begins with: P1.2.
func Take(s string) (string, string, api.Errno) {
	n, rest, e := Get(s)
	if e != api.OK {
		return "", "", e
	}
	// Compared as uint64: a told length may be more than an int holds.
	if n > uint64(len(rest)) {
		return "", "", api.ErrForm
	}
	return rest[:n], rest[n:], api.OK
}
