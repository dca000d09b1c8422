package caps

import (
	"slices"
	"strings"
	"testing"
)

func checkHas(t *testing.T, l []string, word string, want bool) {
	t.Helper()
	if Has(l, word) != want {
		t.Errorf("Has of %.60q in %s: %v", word, shown(l), !want)
	}
}

func checkChoose(t *testing.T, offer, want, both []string) {
	t.Helper()
	if l := Choose(offer, want); !slices.Equal(l, both) {
		t.Errorf("Choose of %s and %s: %s, not %s", shown(offer), shown(want), shown(l), shown(both))
	}
}

// checkChosen holds Choose against the second reading, both ways round, and its result against P10.3.
func checkChosen(t *testing.T, offer, want []string) {
	t.Helper()
	both := toldChoose(offer, want)
	checkChoose(t, offer, want, both)
	checkChoose(t, want, offer, both)
	got := Choose(offer, want)
	checkFine(t, got, true)
	for _, word := range got {
		if !slices.Contains(offer, word) || !slices.Contains(want, word) {
			t.Errorf("Choose of %s and %s: %q is not in both", shown(offer), shown(want), word)
		}
	}
	for _, l := range [][]string{offer, want, got, toldKnown()} {
		checkChoose(t, got, l, got)
		checkChoose(t, l, got, got)
	}
}

// P10.2: a word that is the first, the last, between or nowhere.
func TestHasWritten(t *testing.T) {
	l := few("a", "ab", "band", "thin")
	for _, word := range l {
		checkHas(t, l, word, true)
	}
	for _, word := range []string{"", " ", "A", "aa", "abc", "b", "ban", "bands", "and", "Band", "thi", "hin", "thin ", " thin", "thin\x00", "zz", "-", "a ab", "a ab band thin"} {
		checkHas(t, l, word, false)
	}
	checkHas(t, Known(), "ofs", true)
	checkHas(t, Known(), "of", false)
	checkHas(t, few("a"), "a", true)
	checkHas(t, few("a"), "b", false)
	checkHas(t, nil, "a", false)
	checkHas(t, nil, "", false)
	checkHas(t, []string{}, "", false)
}

// P10.2: every word of a list, at each length that may be and beyond.
func TestHasEvery(t *testing.T) {
	for _, n := range []int{1, 2, 3, 19, 20, 21, 40, 1000} {
		l := many(n)
		for i := range n {
			checkHas(t, l, numbered(i), true)
			checkHas(t, l, numbered(i)+"a", false)
		}
		checkHas(t, l, numbered(n), false)
	}
}

// P10.2: Has looks at any list, also one that may not be, and for any word.
func TestHasInAnyList(t *testing.T) {
	checkHas(t, few("c", "b", "a"), "a", true)
	checkHas(t, few("c", "b", "a"), "c", true)
	checkHas(t, few("c", "b", "a"), "d", false)
	checkHas(t, few("b", "a", "b"), "b", true)
	checkHas(t, few("a", "a", "a"), "a", true)
	checkHas(t, few("z", "a", "m", "b"), "b", true)
	checkHas(t, few(""), "", true)
	checkHas(t, few("a", ""), "", true)
	checkHas(t, few("A b"), "A b", true)
	checkHas(t, few("A b"), "A", false)
	checkHas(t, few("Band"), "band", false)
	long := strings.Repeat("a", 100000)
	checkHas(t, few("b", long), long, true)
	checkHas(t, few("b", long), long[1:], false)
	words := slices.Concat(goodNames(), wrongNames(), many(22))
	for _, l := range append(goodLists(), wrongLists()...) {
		for _, word := range append(words[:len(words):len(words)], l...) {
			checkHas(t, l, word, toldHas(l, word))
		}
	}
}

// P10.2: lists with some known capabilities in common, with all, and with none; the chapter's example among them.
func TestChooseWritten(t *testing.T) {
	known := toldKnown()
	for _, c := range []struct{ offer, want, both []string }{
		{few("band", "new", "thin"), few("new", "ofs", "thin"), few("thin")},
		{known, known, known},
		{known, few("band"), few("band")},
		{known, few("band", "thin"), few("band", "thin")},
		{few("atomic", "ofs", "thin"), few("atomic", "band", "thin"), few("atomic", "thin")},
		{few("atomic", "band"), few("deepen", "ofs", "thin"), nil},
		{known, nil, nil},
		{known, []string{}, nil},
		{nil, nil, nil},
		{known, few("new"), nil},
		{few("new"), few("new"), nil},
		{few("new", "odd", "thin"), few("new", "odd", "thin"), few("thin")},
		{known, few("bands", "of", "thi"), nil},
		{known, few("Band", "THIN", "ofs ", " ofs", ""), nil},
	} {
		checkChoose(t, c.offer, c.want, c.both)
		checkChosen(t, c.offer, c.want)
	}
}

// P10.2: lists that may not be: out of order, with a name twice, with too many, or with names that may not be.
func TestChooseOfWrongLists(t *testing.T) {
	known := toldKnown()
	checkChoose(t, known, few("thin", "odd", "band"), few("band", "thin"))
	checkChoose(t, few("thin", "ofs", "deepen", "band", "atomic"), few("ofs", "atomic", "thin"), few("atomic", "ofs", "thin"))
	checkChoose(t, few("thin", "thin", "band", "thin"), few("thin", "band", "thin", "band"), few("band", "thin"))
	checkChoose(t, few("band", "band"), known, few("band"))
	checkChoose(t, few("band", "band"), few("thin", "thin"), nil)
	checkChoose(t, append(many(400), "thin", "band"), append(many(30), known...), few("band", "thin"))
	checkChoose(t, append(known, many(16)...), append(many(20), known...), known)
	checkChoose(t, append(many(20), "thin"), append(many(21), "thin"), few("thin"))
	checkChoose(t, many(400), many(400), nil)
	checkChoose(t, few("A", "band", " ", ""), few("", " ", "band", "A"), few("band"))
	checkChoose(t, few("", ""), few("", ""), nil)
	checkChoose(t, few("band thin"), few("band", "thin"), nil)
}

// P10.2, P10.3: all pairs of lists of known capabilities, and with others between them, in order and backwards.
func TestChooseAllPairs(t *testing.T) {
	lists := subsets(toldKnown())
	for _, offer := range lists {
		for _, want := range lists {
			checkChosen(t, offer, want)
			more := append(few("a", "new"), offer...)
			slices.Sort(more)
			back := append(few("new", "z"), want...)
			slices.Reverse(back)
			checkChosen(t, more, want)
			checkChosen(t, more, back)
			checkChoose(t, more, back, toldChoose(offer, want)) // those that are not known change nothing
		}
	}
}

// P10.2, P10.3: lists of all kinds, held against each other.
func TestChooseOfAnyLists(t *testing.T) {
	lists := append(goodLists(), wrongLists()...)
	for _, offer := range lists {
		for _, want := range [][]string{toldKnown(), few("thin", "band", "thin"), few("deepen", "new"), append(many(40), "ofs"), offer} {
			checkChosen(t, offer, want)
		}
	}
	chosen := map[int]int{}
	for seed := range uint64(2000) {
		offer, want := someList(int(seed%31), seed*977), someList(int(seed%23), seed*1009+7)
		checkChosen(t, offer, want)
		chosen[len(Choose(offer, want))]++
	}
	for n := range 6 {
		if chosen[n] == 0 {
			t.Errorf("none of them have %d in common: %v", n, chosen)
		}
	}
}

// P0: arguments stay as they are, behind their ends too, results are new, and nothing is kept.
func TestChooseKeepsNothing(t *testing.T) {
	whole := few("thin", "ofs", "band", "band", "x", "atomic")
	before := slices.Clone(whole)
	offer, want := whole[:4], few("deepen", "thin", "new", "band")
	for range 3 {
		checkHas(t, offer, "band", true)
		checkHas(t, offer, "atomic", false)
		for _, l := range [][]string{Choose(offer, want), Choose(want, offer), Choose(offer, offer)} {
			clear(l[:cap(l)]) // no later result, and no argument, may have these
		}
		checkChoose(t, offer, want, few("band", "thin"))
		if !slices.Equal(whole, before) || !slices.Equal(want, few("deepen", "thin", "new", "band")) {
			t.Fatalf("the lists were changed: %s, %s", shown(whole), shown(want))
		}
	}
	known := toldKnown()
	l := Choose(known, known)
	l[0] = "changed"
	if !slices.Equal(known, toldKnown()) || !slices.Equal(Known(), toldKnown()) {
		t.Errorf("the result of Choose is not its own: %s, %s", shown(known), shown(Known()))
	}
}
