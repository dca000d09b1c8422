package delta

import (
	"strings"
	"sync"
	"testing"

	"knapsack/api"
)

// checkMake holds what Make returns against Apply, and against the chapter's words.
func checkMake(t *testing.T, base, text string) string {
	t.Helper()
	d := Make(base, text)
	if len(d) > len(text)+30 || text == base && len(d) > 40 {
		t.Errorf("Make of %.40q, %d bytes %.40q: %d bytes", base, len(text), text, len(d))
	}
	if s, e := toldApply(base, d, len(text)); s != text || e != api.OK {
		t.Errorf("Make of %.40q, %.40q: %.60q, which is %.60q, %d", base, text, d, s, e)
	}
	checkJust(t, base, d, text)
	if again := Make(base, text); again != d {
		t.Errorf("Make of %.40q, %.40q: %.60q, then %.60q", base, text, d, again)
	}
	return d
}

// checkShort holds a delta also against a bound that only steps which copy can keep to.
func checkShort(t *testing.T, base, text string, most int) {
	t.Helper()
	if d := checkMake(t, base, text); len(d) > most {
		t.Errorf("Make of %.40q, %.40q: %d bytes, more than %d", base, text, len(d), most)
	}
}

// P6.2 and P6.3: an empty base, an empty text, and both.
func TestMakeEmpty(t *testing.T) {
	if d := checkMake(t, "", ""); d != "\x00\x00" {
		t.Errorf("of nothing: %x", d)
	}
	for n := range 300 {
		s := manyBytes(n, uint64(n))
		checkMake(t, "", s)
		checkMake(t, s, "")
	}
	for _, n := range []int{4096, 65536, 1 << 18} {
		s := manyBytes(n, uint64(n))
		checkMake(t, "", s)
		checkMake(t, s, "")
	}
}

// P6.2: a text that equals its base has at most 40 bytes as a delta.
func TestMakeEqual(t *testing.T) {
	for n := range 300 {
		for _, s := range []string{manyBytes(n, uint64(n)), fewLetters(n, 2, uint64(n)), strings.Repeat("z", n), strings.Repeat("abcd", n), strings.Repeat("four", n) + "abcd" + strings.Repeat("four", n+1)} {
			checkShort(t, s, s, 40)
		}
	}
	for _, n := range []int{4095, 4096, 4097, 65536, 1 << 18} {
		for _, s := range []string{manyBytes(n, uint64(n)), fewLetters(n, 3, uint64(n)), strings.Repeat("\x00", n)} {
			checkShort(t, s, s, 40)
		}
	}
}

// P6.2: a text that shares nothing with its base has at most 30 bytes more.
func TestMakeUnlike(t *testing.T) {
	for n := range 400 {
		checkMake(t, manyBytes(n, 1), manyBytes(n, 2))
		checkMake(t, strings.Repeat("a", n), strings.Repeat("b", n))
		checkMake(t, manyBytes(4096, 3), manyBytes(n, uint64(n)+4))
	}
	for _, n := range []int{4096, 8191, 8192, 65536, 1 << 18} {
		checkMake(t, manyBytes(n, 1), manyBytes(n, 2))
		checkMake(t, "abc", manyBytes(n, 2))
	}
}

// P6.2: copies that save less than they cost: four bytes of a long base again and again, with other ones between them.
func TestMakePoorCopies(t *testing.T) {
	base := manyBytes(1<<18, 1)
	for _, between := range []int{0, 1, 2, 3, 130} {
		var text strings.Builder
		for i := range 2000 {
			from := 100000 + (i*7919)%150000
			text.WriteString(manyBytes(between, uint64(i)))
			text.WriteString(base[from : from+4])
		}
		checkMake(t, base, text.String())
	}
}

// P6.2 and P6.3: texts with one change of their base.
func TestMakeChanged(t *testing.T) {
	base := manyBytes(1000, 1)
	for at := 0; at <= 1000; at += 9 {
		for _, part := range []string{"x", "more", manyBytes(30, 2)} {
			checkShort(t, base, base[:at]+part+base[at:], 20+len(part))
			checkShort(t, base, base[:at]+part+base[min(at+len(part), 1000):], 20+len(part))
		}
		checkShort(t, base, base[:at]+base[min(at+5, 1000):], 20)
		checkShort(t, base, base[at:], 20)
		checkShort(t, base, base[:at], 20)
		checkShort(t, base, base[at:]+base[:at], 20)
		checkShort(t, base, base+base[at:], 20)
	}
}

// P6.2 and P6.3: texts of lines.
func TestMakeLines(t *testing.T) {
	base := strings.Repeat("some lines that stay\n", 20)
	for _, text := range []string{base + "x", "x" + base, base[:100] + "one more\n" + base[100:], base[:50], base[50:], base + base} {
		checkShort(t, base, text, 40)
	}
	checkMake(t, base, "nothing of it")
	checkMake(t, "nothing of it", base)
	checkShort(t, "to be or not to be, that is the question", "that is the question: to be or not", 20)
}

// P6.2: of several places from which bytes can be copied the one with the most is found, if it is not behind too many others.
func TestMakeLongPlace(t *testing.T) {
	long := manyBytes(200, 1)
	base := ""
	for i := range 20 {
		base += "\tif " + manyBytes(5, uint64(i)+2)
	}
	checkShort(t, base+"\tif "+long+base, "\tif "+long, 8)
	checkShort(t, base+base+"\tif "+long, "\tif "+long, 30)
}

// P6.2 and P6.3: all short bases and texts of few letters, in which copies of every kind occur.
func TestMakeAllShort(t *testing.T) {
	for _, base := range []string{"", "a", "ab", "aba", "abab", "aaaa", "abba", "aaaab", "baaaa", "aabbab", "abababab", "aaaabaaaaa"} {
		allStrings("ab", 10, func(text string) { checkMake(t, base, text) })
		allStrings("abc", 5, func(text string) { checkMake(t, base, text) })
	}
	allStrings("ab", 5, func(base string) {
		allStrings("ab", 5, func(text string) { checkMake(t, base, text) })
	})
}

// P6.3: texts that are made of parts of their base, of few letters and of others.
func TestMakeParts(t *testing.T) {
	for i := range uint64(600) {
		base := fewLetters(int(i), 1+int(i%7), i)
		choice := manyBytes(30, i)
		var text strings.Builder
		for k := 0; k+2 < len(choice); k += 3 {
			if choice[k]%2 == 0 {
				from := int(choice[k+1]) * len(base) / 256
				text.WriteString(base[from:min(from+int(choice[k+2]), len(base))])
			} else {
				text.WriteString(fewLetters(int(choice[k+1]%9), 3, i))
			}
		}
		checkMake(t, base, text.String())
		checkMake(t, text.String(), base)
	}
}

// P6.3: long bases and texts, whose numbers have several bytes.
func TestMakeLong(t *testing.T) {
	a, b := manyBytes(100000, 1), fewLetters(100000, 2, 2)
	checkShort(t, a+b, b+a, 5000)
	checkShort(t, a, a[50000:]+"x"+a[:50000], 40)
	checkMake(t, b, a)
	checkMake(t, b, fewLetters(100000, 2, 3))
	checkMake(t, strings.Repeat("a", 100000), strings.Repeat("a", 100000)+"b")
	checkMake(t, strings.Repeat("a", 1000), strings.Repeat("a", 100000))
}

// P0, R3 and R4: a result hangs on the arguments alone, and calls at the same time do not disturb one another.
func TestNothingIsKept(t *testing.T) {
	base := fewLetters(500, 4, 99)
	var texts, deltas []string
	for i := range 30 {
		s := fewLetters(40, 4, uint64(i)) + base[i*10:]
		texts = append(texts, s)
		deltas = append(deltas, Make(base, s))
	}
	var all sync.WaitGroup
	for range 4 {
		all.Go(func() {
			for i := range texts {
				k := len(texts) - 1 - i
				s, e := Apply(base, deltas[k], len(texts[k]))
				n, f := Size(deltas[k])
				if d := Make(base, texts[k]); d != deltas[k] || s != texts[k] || e != api.OK || n != len(s) || f != api.OK {
					t.Errorf("text %d: %x, %.40q, %d, %d, %d", k, d, s, e, n, f)
				}
			}
		})
	}
	all.Wait()
}
