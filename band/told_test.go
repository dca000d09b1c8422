package band

import (
	"strings"

	"knapsack/api"
	"knapsack/pkt"
)

// toldPut divides a stream as the chapter's words say it: it counts the pieces first, and cuts each one out by its place.
func toldPut(channel int, s string, size int) ([]pkt.Pkt, api.Errno) {
	if channel != 1 && channel != 2 && channel != 3 {
		return nil, api.ErrArg
	}
	if size <= 0 || size >= 1000 {
		return nil, api.ErrArg
	}
	count := len(s) / size
	if len(s)%size != 0 {
		count++
	}
	l := make([]pkt.Pkt, count)
	for i := range l {
		from, to := i*size, (i+1)*size
		if i == count-1 {
			to = len(s)
		}
		l[i] = pkt.Pkt{Kind: 0, Load: mark(channel) + s[from:to]}
	}
	return l, api.OK
}

func mark(channel int) string {
	return string([]byte{byte(channel)})
}

// toldChannel is the channel that a line is of, or 0.
func toldChannel(p pkt.Pkt) int {
	if p.Kind != 0 || len(p.Load) > 1000 {
		return 0
	}
	for channel := 1; channel <= 3; channel++ {
		if piece, ok := strings.CutPrefix(p.Load, mark(channel)); ok && piece != "" {
			return channel
		}
	}
	return 0
}

// toldGet goes through the lines once for each thing that the chapter says, in its order.
func toldGet(l []pkt.Pkt) (string, string, api.Errno) {
	for _, p := range l {
		if toldChannel(p) == 0 {
			return "", "", api.ErrForm
		}
	}
	for _, p := range l {
		if toldChannel(p) == 3 {
			return "", "", api.ErrRefused
		}
	}
	return toldStream(l, 1), toldStream(l, 2), api.OK
}

func toldStream(l []pkt.Pkt, channel int) string {
	var b strings.Builder
	for _, p := range l {
		if toldChannel(p) == channel {
			b.WriteString(p.Load[1:])
		}
	}
	return b.String()
}

// lines are Data lines of these payloads.
func lines(loads ...string) []pkt.Pkt {
	var l []pkt.Pkt
	for _, load := range loads {
		l = append(l, pkt.Pkt{Kind: pkt.Data, Load: load})
	}
	return l
}

// wrongLines are lines that are of no channel.
func wrongLines() []pkt.Pkt {
	l := lines("", "\x01", "\x02", "\x03", "\x00", "\x04", "\xff",
		"\x00a", "\x04a", "\x05a", "\x00\x01a", "\x04\x03a", "\x7fa", "\x80a", "\x81a", "\xffa", "1a", "2a", "3a", "0a", " a", "\na",
		"\x00"+strings.Repeat("x", 999), "\x04"+strings.Repeat("x", 999), "\xc2\x81a",
		"\x01"+strings.Repeat("x", 1000), "\x02"+strings.Repeat("x", 1000), "\x03"+strings.Repeat("x", 1000),
		"\x01"+strings.Repeat("x", 1001), "\x02"+strings.Repeat("x", 65535), "\x03"+strings.Repeat("x", 4096), "\x00"+strings.Repeat("x", 1000))
	for _, kind := range []int{pkt.Flush, pkt.Delim, -1, 3, 4, 256, 1 << 32, -1 << 63, 1<<63 - 1} {
		for _, load := range []string{"", "a", "\x01", "\x01a", "\x02a", "\x03a"} {
			l = append(l, pkt.Pkt{Kind: kind, Load: load})
		}
	}
	return l
}

// goodPieces are pieces whose bytes look like channel numbers or like lines, that are not text, or that are as short or as long as may be.
func goodPieces() []string {
	return []string{
		"a", "ab", "\x00", "\x01", "\x02", "\x03", "\x04", "\xff", "0", "1", "3", "\n",
		"\x01a", "\x02a", "\x03no", "\x01\x02\x03", "\x03\x03\x03", "\x00\x00",
		"0000", "0001", "0006hi0000", "\xff\xfe\x80", "\u00e9\u20ac", "\xc2", "\x80\x80",
		strings.Repeat("x", 998), strings.Repeat("x", 999), strings.Repeat("\x03", 999), strings.Repeat("\x00", 999), manyBytes(999, 5),
	}
}

// manyBytes are n bytes without a pattern.
func manyBytes(n int, seed uint64) string {
	b := make([]byte, n)
	for i := range b {
		seed = next(seed)
		b[i] = byte(seed >> 56)
	}
	return string(b)
}

func next(seed uint64) uint64 {
	return seed*6364136223846793005 + 1442695040888963407
}

// interleavings calls try with every list that has the lines of both lists, each in its own order.
func interleavings(a, b, done []pkt.Pkt, try func(l []pkt.Pkt)) {
	if len(a) == 0 && len(b) == 0 {
		try(done)
		return
	}
	done = done[:len(done):len(done)] // both ways append to a list of their own
	if len(a) > 0 {
		interleavings(a[1:], b, append(done, a[0]), try)
	}
	if len(b) > 0 {
		interleavings(a, b[1:], append(done, b[0]), try)
	}
}

// someInterleaving is one of them, always the same one for a seed.
func someInterleaving(a, b []pkt.Pkt, seed uint64) []pkt.Pkt {
	var l []pkt.Pkt
	for len(a) > 0 && len(b) > 0 {
		seed = next(seed)
		if seed>>63 == 0 {
			l, a = append(l, a[0]), a[1:]
		} else {
			l, b = append(l, b[0]), b[1:]
		}
	}
	return append(append(l, a...), b...)
}

// allLists calls try with every list of at most n of these lines.
func allLists(of []pkt.Pkt, n int, done []pkt.Pkt, try func(l []pkt.Pkt)) {
	try(done)
	if n == 0 {
		return
	}
	for _, p := range of {
		allLists(of, n-1, append(done[:len(done):len(done)], p), try)
	}
}
