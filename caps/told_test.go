package caps

import (
	"fmt"
	"regexp"
	"sort"
	"strings"

	"knapsack/api"
)

// This file is the chapter a second time, worked out without the package's own code, and the names and lists on which the tests try both.

// No byte above 127 is in these classes, whether it is part of a rune or not.
var (
	toldName = regexp.MustCompile(`\A[a-z0-9-]{1,20}\z`)
	toldText = regexp.MustCompile(`\A(|[a-z0-9-]{1,20}( [a-z0-9-]{1,20})*)\z`)
)

// toldKnown are the known capabilities, as the chapter lists them.
func toldKnown() []string {
	return []string{"atomic", "band", "deepen", "ofs", "thin"}
}

func toldFine(l []string) bool {
	names := map[string]int{}
	for _, word := range l {
		if !toldName.MatchString(word) {
			return false
		}
		names[word]++
	}
	return sort.StringsAreSorted(l) && len(names) == len(l) && len(l) <= 20
}

func toldPut(l []string) (string, api.Errno) {
	if !toldFine(l) {
		return "", api.ErrArg
	}
	return toldWords(l), api.OK
}

// toldWords has all words, whether these may be or not.
func toldWords(l []string) string {
	s := ""
	for i, word := range l {
		if i > 0 {
			s += " "
		}
		s += word
	}
	return s
}

func toldGet(s string) ([]string, api.Errno) {
	l := strings.Fields(s)
	if !toldText.MatchString(s) || !toldFine(l) {
		return nil, api.ErrForm
	}
	return l, api.OK
}

func toldHas(l []string, word string) bool {
	return counted(l)[word] > 0
}

func toldChoose(offer, want []string) []string {
	offered, wanted, known := counted(offer), counted(want), counted(toldKnown())
	var l []string
	for word := range offered {
		if wanted[word] > 0 && known[word] > 0 {
			l = append(l, word)
		}
	}
	sort.Strings(l)
	return l
}

func counted(l []string) map[string]int {
	words := map[string]int{}
	for _, word := range l {
		words[word]++
	}
	return words
}

// few is a list of these words.
func few(words ...string) []string {
	return words
}

// numbered is a name; those of greater numbers are behind it in order.
func numbered(i int) string {
	return fmt.Sprintf("w%04d", i)
}

// many are n names in order.
func many(n int) []string {
	var l []string
	for i := range n {
		l = append(l, numbered(i))
	}
	return l
}

// goodNames are names that may be, in order.
func goodNames() []string {
	return []string{
		"-", "--", strings.Repeat("-", 20), "-a", "0", "0-", "10", "2", "9", "a", "a-", "a-1", "a0", "a9", "aa", strings.Repeat("a", 19), strings.Repeat("a", 20), "ab",
		"atomic", "b", "band", "band-2", "bands", "deepen", "ofs", "thin", "thin-pack", "z", "z0", strings.Repeat("z", 20),
	}
}

// wrongNames are names that may not be.
func wrongNames() []string {
	return []string{
		"", " ", "\n", "\x00", "\t", ",", ".", "/", ":", "_", "`", "{", "@", "[", "A", "Z", "\x7f", "\x80", "\xff", "a b", " a", "a ", "a\n", "\na", "a\x00", "a_b", "a.b", "a,b", "a=b",
		"Band", "bAnd", "banD", "BAND", "\u00e9", "a\u2010b", "b\u00e4nd", "\u0661", "\xc3", "a\xc3", "\u212a",
		strings.Repeat("a", 21), strings.Repeat("-", 21), strings.Repeat("9", 22), strings.Repeat("a", 40), strings.Repeat("a", 256+1), strings.Repeat("a", 65536+20),
		strings.Repeat("a", 19) + "A", "_" + strings.Repeat("a", 19), strings.Repeat("a", 20) + "\n", strings.Repeat("a", 20) + " ", strings.Repeat("\u00e9", 10),
	}
}

// goodLists are lists that may be, of many lengths, with names that are known and names that are not.
func goodLists() [][]string {
	l := [][]string{
		nil, {}, few("a"), few("band"), few("a", "b"), few("a", "aa"), few("a", "ab", "b"), few("a", "a-"), few("-", "0"), few("9", "a"), few("10", "2"), few("-", "0", "9", "a", "z"),
		few("band", "bands"), few("band", "new", "thin"), few("new", "ofs", "thin"), few("a-1", "band", "thin"), few("new", "odd"), few("bandit", "ofs2", "thi"), toldKnown(),
		goodNames()[:20], goodNames()[10:],
	}
	for _, name := range goodNames() {
		l = append(l, few(name))
	}
	for n := range 21 {
		l = append(l, many(n))
	}
	return append(l, subsets(toldKnown())...)
}

// wrongLists are lists that may not be.
func wrongLists() [][]string {
	l := [][]string{
		few("b", "a"), few("a", "a"), few("thin", "band"), few("a", "c", "b"), few("b", "a", "c"), few("a", "b", "b"), few("a", "a", "b"), few("a", "b", "a"),
		few("aa", "a"), few("bands", "band"), few("a-", "a"), few("2", "10"), few("a", "0"), few("0", "-"), few("a", "-"), few("z", "a"), few("band", "band"),
		few("thin", "ofs", "deepen", "band", "atomic"), few("atomic", "band", "deepen", "thin", "ofs"), few("atomic", "band", "band", "ofs", "thin"),
		few("thin", "odd", "band"), few("", ""), few("", "a"), few("a", ""), few("a", "", "b"), few("a b"), few("band thin"),
		many(21), many(22), many(40), many(256), many(276), many(1000), goodNames(), append(toldKnown(), many(16)...), append(many(20), "a"), append(many(19), numbered(18)),
		append(many(20), toldKnown()...), append(many(400), toldKnown()...), append(toldKnown(), toldKnown()...),
	}
	for _, name := range wrongNames() {
		l = append(l, few(name), few("-", name), few(name, strings.Repeat("z", 20)), append(toldKnown(), name))
	}
	for i := range 20 {
		more, same := many(20), many(20)
		more[i] += "_" // behind what is there, so that the order stays
		same[i] = same[(i+1)%20]
		l = append(l, more, same)
	}
	return l
}

// subsets are all lists of some of these, in their order.
func subsets(of []string) [][]string {
	var l [][]string
	for bits := range 1 << len(of) {
		var one []string
		for i, word := range of {
			if bits>>i&1 == 1 {
				one = append(one, word)
			}
		}
		l = append(l, one)
	}
	return l
}

// allLists calls try with every list of at most n of these words.
func allLists(of []string, n int, done []string, try func(l []string)) {
	try(done)
	if n == 0 {
		return
	}
	for _, word := range of {
		allLists(of, n-1, append(done[:len(done):len(done)], word), try)
	}
}

// someList is a list of n words, known ones, others and wrong ones, in some order, always the same one for a seed.
func someList(n int, seed uint64) []string {
	words := append(append(toldKnown(), "atomi", "bandy", "new", "odd", "ofs-2"), "", "Band", "thin ", " thin", "ofs\n")
	var l []string
	for range n {
		seed = seed*6364136223846793005 + 1442695040888963407
		l = append(l, words[int(seed>>33%uint64(len(words)))])
	}
	return l
}
