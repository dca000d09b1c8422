package pkt

import (
	"fmt"
	"strings"

	"knapsack/api"
)

// This file is the chapter a second time, worked out without the package's own code, and the lines and strings on which the tests try both.

// toldLine is the encoding of a line, if it is valid.
func toldLine(p Pkt) (string, bool) {
	switch {
	case p.Kind == 0 && len(p.Load) <= 1000:
		return fmt.Sprintf("%04x%s", 4+len(p.Load), p.Load), true
	case p.Kind == 1 && p.Load == "":
		return "0000", true
	case p.Kind == 2 && p.Load == "":
		return "0001", true
	}
	return "", false
}

func toldPut(l []Pkt) (string, api.Errno) {
	whole := ""
	for _, p := range l {
		s, ok := toldLine(p)
		if !ok {
			return "", api.ErrArg
		}
		whole += s
	}
	return whole, api.OK
}

// toldDigits are, for each number of bytes that a payload may have, the digits of its line.
func toldDigits() []string {
	var l []string
	for n := range 1001 {
		l = append(l, fmt.Sprintf("%04x", 4+n))
	}
	return l
}

// told gets lines as the chapter's words say it: it tries which line's encoding a string begins with.
type told struct {
	digits []string
}

func newTold() told {
	return told{digits: toldDigits()}
}

func (w told) get(s string) (Pkt, string, api.Errno) {
	if rest, ok := strings.CutPrefix(s, "0000"); ok {
		return Pkt{Kind: 1}, rest, api.OK
	}
	if rest, ok := strings.CutPrefix(s, "0001"); ok {
		return Pkt{Kind: 2}, rest, api.OK
	}
	for n, digits := range w.digits {
		if rest, ok := strings.CutPrefix(s, digits); ok && len(rest) >= n {
			return Pkt{Kind: 0, Load: rest[:n]}, rest[n:], api.OK
		}
	}
	return Pkt{}, "", api.ErrForm
}

func (w told) all(s string) ([]Pkt, api.Errno) {
	var l []Pkt
	for len(s) > 0 {
		p, rest, e := w.get(s)
		if e != api.OK {
			return nil, e
		}
		l, s = append(l, p), rest
	}
	return l, api.OK
}

// edgeLoads are payloads at the edges of their length, and those whose bytes look like digits or like lines, or are not text.
func edgeLoads() []string {
	return []string{
		"", "a", "\x00", "\xff", "0", "\n", "hi",
		"0000", "0001", "0004", "0006hi0000", "000", "03ec", "ffff", "000A",
		"\xff\xfe\x80", "\u00e9\u20ac", "\x00\x00\x00\x00", "0000\n0001\r\n",
		strings.Repeat("0", 12), strings.Repeat("0", 252), strings.Repeat("\x80", 251),
		strings.Repeat("x", 999), strings.Repeat("0", 1000), manyBytes(1000, 7),
	}
}

// edgeLines are a line of each kind, and the Data lines of all edge payloads.
func edgeLines() []Pkt {
	l := []Pkt{{Kind: Flush}, {Kind: Delim}}
	for _, load := range edgeLoads() {
		l = append(l, Pkt{Kind: Data, Load: load})
	}
	return l
}

// someLines are n lines of all kinds and of payloads of many lengths, always the same ones for a seed.
func someLines(n int, seed uint64) []Pkt {
	var l []Pkt
	for range n {
		seed = next(seed)
		switch seed >> 60 {
		case 0, 1:
			l = append(l, Pkt{Kind: Flush})
		case 2, 3:
			l = append(l, Pkt{Kind: Delim})
		case 4:
			l = append(l, Pkt{Kind: Data, Load: manyBytes(1000, seed)})
		default:
			l = append(l, Pkt{Kind: Data, Load: manyBytes(int(seed>>32%40), seed)})
		}
	}
	return l
}

// manyBytes are n bytes without a pattern.
func manyBytes(n int, seed uint64) string {
	b := make([]byte, n)
	for i := range b {
		seed = next(seed)
		b[i] = byte(seed >> 56)
	}
	return string(b)
}

func next(seed uint64) uint64 {
	return seed*6364136223846793005 + 1442695040888963407
}

// allStrings calls try with every string of at most n of these letters.
func allStrings(letters string, n int, try func(s string)) {
	level := []string{""}
	for range n + 1 {
		var longer []string
		for _, s := range level {
			try(s)
			for i := range len(letters) {
				longer = append(longer, s+letters[i:i+1])
			}
		}
		level = longer
	}
}
