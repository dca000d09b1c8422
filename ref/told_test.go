package ref

import (
	"encoding/hex"
	"fmt"
	"regexp"
	"slices"
	"sort"
	"strings"

	"knapsack/api"
)

// This file is the chapter a second time, worked out without the package's own code, and the names, refs and updates on which the tests try both.

// No byte above 127 is in these classes, whether it is part of a rune or not.
var (
	toldName = regexp.MustCompile(`\A[!-~]{1,40}\z`)
	toldLine = regexp.MustCompile(`\A([0-9a-f]{64}) ([!-~]{1,40})\n\z`)
)

func toldFine(l []api.Ref) bool {
	names := map[string]int{}
	for _, r := range l {
		if !toldName.MatchString(r.Name) || r.Id == id(0) {
			return false
		}
		names[r.Name]++
	}
	inOrder := sort.SliceIsSorted(l, func(i, j int) bool { return l[i].Name < l[j].Name })
	return inOrder && len(names) == len(l) && len(l) <= 64
}

func toldPut(l []api.Ref) (string, api.Errno) {
	if !toldFine(l) {
		return "", api.ErrArg
	}
	return toldLines(l), api.OK
}

// toldLines has a line for each ref, whether these may be or not.
func toldLines(l []api.Ref) string {
	s := ""
	for _, r := range l {
		s += fmt.Sprintf("%x %s\n", r.Id[:], r.Name)
	}
	return s
}

func toldGet(s string) ([]api.Ref, api.Errno) {
	var l []api.Ref
	for _, line := range strings.SplitAfter(s, "\n") {
		if line == "" { // behind the last line feed, or an empty text
			continue
		}
		m := toldLine.FindStringSubmatch(line)
		if m == nil {
			return nil, api.ErrForm
		}
		b, _ := hex.DecodeString(m[1])
		l = append(l, api.Ref{Name: m[2], Id: api.Id(b)})
	}
	if !toldFine(l) {
		return nil, api.ErrForm
	}
	return l, api.OK
}

func toldFind(l []api.Ref, name string) (api.Id, bool) {
	found, ok := id(0), false
	for i := len(l) - 1; i >= 0; i-- {
		if l[i].Name == name {
			found, ok = l[i].Id, true
		}
	}
	return found, ok
}

// toldError is the error of update i of u, with the refs that those before it produced.
func toldError(refs map[string]api.Id, u []api.Update, i int) api.Errno {
	one := u[i]
	earlier := slices.ContainsFunc(u[:i], func(x api.Update) bool { return x.Name == one.Name })
	if !toldName.MatchString(one.Name) || one.Old == id(0) && one.New == id(0) || earlier {
		return api.ErrRef
	}
	now, there := refs[one.Name]
	if one.Old == id(0) && there || one.Old != id(0) && (!there || now != one.Old) {
		return api.ErrLease
	}
	after := len(refs)
	if !there {
		after++
	}
	if one.New == id(0) {
		after--
	}
	if after > 64 {
		return api.ErrLimit
	}
	return api.OK
}

// toldUpdate keeps the refs in a map, and sorts them at the end.
func toldUpdate(l []api.Ref, u []api.Update, all bool) ([]api.Ref, []api.Errno, api.Errno) {
	if !toldFine(l) {
		return nil, nil, api.ErrArg
	}
	refs := map[string]api.Id{}
	for _, r := range l {
		refs[r.Name] = r.Id
	}
	var told []api.Errno
	bad := 0
	for i, one := range u {
		e := toldError(refs, u, i)
		told = append(told, e)
		switch {
		case e != api.OK:
			bad++
		case one.New == id(0):
			delete(refs, one.Name)
		default:
			refs[one.Name] = one.New
		}
	}
	if all && bad > 0 {
		for i := range told {
			if told[i] == api.OK {
				told[i] = api.ErrState
			}
		}
		return slices.Clone(l), told, api.OK
	}
	return sorted(refs), told, api.OK
}

func sorted(refs map[string]api.Id) []api.Ref {
	var l []api.Ref
	for name, id := range refs {
		l = append(l, api.Ref{Name: name, Id: id})
	}
	sort.Slice(l, func(i, j int) bool { return l[i].Name < l[j].Name })
	return l
}

// id is an id with this number as its last byte; that of 0 is the zero id.
func id(n byte) api.Id {
	return api.Id{31: n}
}

// oneRef are refs of one.
func oneRef(name string, id api.Id) []api.Ref {
	return []api.Ref{{Name: name, Id: id}}
}

// few are the refs of these names, with the ids 1, 2 and so on.
func few(names ...string) []api.Ref {
	var l []api.Ref
	for i, name := range names {
		l = append(l, api.Ref{Name: name, Id: id(byte(i + 1))})
	}
	return l
}

// numbered is a name; those of greater numbers are behind it in order.
func numbered(i int) string {
	return fmt.Sprintf("r%03d", i)
}

// many are n refs in order, with ids that have all kinds of bytes; their names have gaps between them.
func many(n int) []api.Ref {
	var l []api.Ref
	for i := range n {
		l = append(l, api.Ref{Name: numbered(2 * i), Id: someId(uint64(i))})
	}
	return l
}

// someId is an id without a pattern, always the same one for a seed.
func someId(seed uint64) api.Id {
	var id api.Id
	for i := range id {
		seed = next(seed)
		id[i] = byte(seed >> 56)
	}
	return id
}

func next(seed uint64) uint64 {
	return seed*6364136223846793005 + 1442695040888963407
}

// goodNames are names that may be, in order.
func goodNames() []string {
	return []string{
		"!", "!!", "\"", "0", "10", "2", "A", "HEAD", "Z", "a", "a!", strings.Repeat("a", 39), strings.Repeat("a", 40), "aa~", "a~", "b",
		"heads/main", "heads/main2", "heads/max", "refs/tags/v1.0", "z", "~", "~!", strings.Repeat("~", 40),
	}
}

// wrongNames are names that may not be.
func wrongNames() []string {
	return []string{
		"", " ", "\n", "\x00", "\x1f", "\x7f", "\x80", "\xff", "a b", " a", "a ", "a\n", "\na", "a\nb", "a\x00", "a\tb", "a\r", "a\x7f", "\u00e9", "a\u20ac", "\xc2\xa1",
		strings.Repeat("a", 41), strings.Repeat("a", 42), strings.Repeat("a", 80), strings.Repeat("a", 296), strings.Repeat("a", 65536+1),
		strings.Repeat("a", 39) + " ", " " + strings.Repeat("a", 39), strings.Repeat("a", 40) + "\n", strings.Repeat("\u00e9", 20),
	}
}

// goodLists are lists of refs that may be, of many lengths and with names and ids of all kinds.
func goodLists() [][]api.Ref {
	l := [][]api.Ref{
		nil, {}, few("a"), few("a", "b"), few("a", "aa"), few("a", "ab", "b"), few("Z", "a"), few("10", "2"), few("!", "~"), few("a", "a!"), few("heads/a", "heads/b", "tags/a"),
		few(goodNames()...), oneRef("a", api.Id{0: 1}), oneRef("a", api.Id{31: 1}), oneRef("a", api.Id{0: 255, 31: 255}),
		{{Name: "a", Id: id(1)}, {Name: "b", Id: id(1)}, {Name: "c", Id: id(1)}}, // refs may have the same id
		{{Name: "a", Id: id(9)}, {Name: "b", Id: id(1)}},                         // ids need no order
	}
	for _, n := range []int{1, 2, 3, 10, 31, 62, 63, 64} {
		l = append(l, many(n))
	}
	return l
}

// wrongLists are lists of refs that may not be.
func wrongLists() [][]api.Ref {
	l := [][]api.Ref{
		few("b", "a"), few("a", "a"), few("a", "c", "b"), few("b", "a", "c"), few("a", "b", "b"), few("a", "a", "b"), few("a", "b", "a"),
		few("aa", "a"), few("a!", "a"), few("a", "Z"), few("2", "10"), few("heads/b", "heads/a"), few("a", "b", "c", "d", "f", "e"),
		{{Name: "a", Id: id(1)}, {Name: "a", Id: id(1)}}, {{Name: "b", Id: id(1)}, {Name: "a", Id: id(2)}},
		{{}}, {{Name: "a"}}, {{Id: id(1)}}, {{}, {Name: "a", Id: id(1)}},
		{{Name: "a"}, {Name: "b", Id: id(1)}}, {{Name: "a", Id: id(1)}, {Name: "b"}}, {{Name: "a", Id: id(1)}, {Name: "b"}, {Name: "c", Id: id(1)}},
		many(65), many(66), many(128), many(1000),
		append(many(63), few("a")...), append(many(64), few("z")...), append(many(63), many(63)[62]), append(few("z"), many(63)...),
	}
	for _, name := range wrongNames() {
		l = append(l, few(name), append(few("A"), api.Ref{Name: name, Id: id(1)}), append(few(name), api.Ref{Name: "~", Id: id(1)}))
	}
	for _, i := range []int{0, 1, 31, 62, 63} {
		noId, noName := many(64), many(64)
		noId[i].Id, noName[i].Name = id(0), noName[i].Name+" "
		l = append(l, noId, noName)
	}
	return l
}

// allUpdates calls try with every list of at most n of these updates.
func allUpdates(of []api.Update, n int, done []api.Update, try func(u []api.Update)) {
	try(done)
	if n == 0 {
		return
	}
	for _, one := range of {
		allUpdates(of, n-1, append(done[:len(done):len(done)], one), try)
	}
}

// products are the updates of all these names, from each of the ids to each.
func products(names []string, ids []api.Id) []api.Update {
	var l []api.Update
	for _, name := range names {
		for _, from := range ids {
			for _, to := range ids {
				l = append(l, api.Update{Name: name, Old: from, New: to})
			}
		}
	}
	return l
}

// orders calls try with every order of the updates.
func orders(rest, done []api.Update, try func(u []api.Update)) {
	if len(rest) == 0 {
		try(done)
		return
	}
	for i, one := range rest {
		others := slices.Delete(slices.Clone(rest), i, i+1)
		orders(others, append(done[:len(done):len(done)], one), try)
	}
}

// shuffled is some order of the updates, always the same one for a seed.
func shuffled(u []api.Update, seed uint64) []api.Update {
	l := slices.Clone(u)
	for i := len(l) - 1; i > 0; i-- {
		seed = next(seed)
		j := int(seed >> 33 % uint64(i+1))
		l[i], l[j] = l[j], l[i]
	}
	return l
}

// someUpdates are n updates of refs and of none, many of which may be done, always the same ones for a seed.
func someUpdates(l []api.Ref, n int, seed uint64) []api.Update {
	var u []api.Update
	for range n {
		seed = next(seed)
		one := api.Update{Name: numbered(int(seed >> 33 % 140)), New: someId(seed)}
		one.Old, _ = toldFind(l, one.Name)
		switch seed >> 60 {
		case 0:
			one.Old = someId(seed + 1)
		case 1:
			one.Old = id(0)
		case 2:
			one.Name += " "
		case 3, 4, 5, 6, 7, 8:
			one.New = id(0)
		case 9:
			one.New = one.Old
		}
		u = append(u, one)
	}
	return u
}
