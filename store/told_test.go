package store

import (
	"bytes"
	"crypto/sha256"
	"encoding/binary"
	"sort"
	"strconv"
	"strings"

	"knapsack/api"
	"knapsack/object"
)

// This file is the chapter a second time, worked out without the package's own code, and the encodings on which the tests try both.

// toldStore is a store as the list of what was put, in that order.
type toldStore struct {
	put []string
}

func toldId(s string) api.Id {
	return sha256.Sum256([]byte(s))
}

func (s *toldStore) Put(encoding string) (api.Id, api.Errno) {
	if s == nil {
		return api.Id{}, api.ErrArg
	}
	if _, e := object.Decode(encoding); e != api.OK {
		return api.Id{}, api.ErrForm
	}
	s.put = append(s.put, encoding)
	return toldId(encoding), api.OK
}

func (s *toldStore) Get(id api.Id) (string, bool) {
	if s != nil {
		for _, encoding := range s.put {
			if toldId(encoding) == id {
				return encoding, true
			}
		}
	}
	return "", false
}

func (s *toldStore) Ids() []api.Id {
	var l []api.Id
	if s == nil {
		return l
	}
	seen := map[string]bool{}
	for _, encoding := range s.put {
		if !seen[encoding] {
			l = append(l, toldId(encoding))
		}
		seen[encoding] = true
	}
	sort.Slice(l, func(i, j int) bool { return bytes.Compare(l[i][:], l[j][:]) < 0 })
	return l
}

func (s *toldStore) Copy() *toldStore {
	if s == nil {
		return nil
	}
	return &toldStore{put: append([]string{}, s.put...)}
}

// coded is the encoding of a kind with this body, whether there is such an object or not.
func coded(kind byte, body ...string) string {
	inner := strings.Join(body, "")
	b := binary.AppendUvarint([]byte{kind}, uint64(len(inner)))
	return string(b) + inner
}

func blob(data string) string {
	return coded(1, data)
}

// entry is one of a tree's, with a name of fewer than 128 bytes.
func entry(kind byte, name string, id api.Id) string {
	return string([]byte{kind, byte(len(name))}) + name + string(id[:])
}

// commit has a time and a text of fewer than 128 bytes.
func commit(tree api.Id, time byte, text string, parents ...api.Id) string {
	b := append([]byte{}, tree[:]...)
	b = append(b, byte(len(parents)))
	for _, p := range parents {
		b = append(b, p[:]...)
	}
	b = append(b, time, byte(len(text)))
	return coded(3, string(b), text)
}

// tag has a name of fewer than 128 bytes.
func tag(of byte, target api.Id, name string) string {
	return coded(4, string([]byte{of}), string(target[:]), string([]byte{byte(len(name))}), name)
}

// history are encodings of all four kinds, each behind those that it leads to.
func history() []string {
	hi, empty := blob("hi"), blob("")
	small := coded(2, entry(1, "a", toldId(hi)), entry(1, "b", toldId(empty)))
	large := coded(2, entry(2, "a", toldId(small)), entry(1, "b", toldId(hi)), entry(2, "c", toldId(small)))
	first := commit(toldId(small), 1, "first")
	second := commit(toldId(large), 2, "second", toldId(first))
	side := commit(toldId(small), 2, "side", toldId(first))
	merge := commit(toldId(large), 3, "", toldId(second), toldId(side))
	v1 := tag(3, toldId(merge), "v1")
	return []string{hi, empty, small, large, first, second, side, merge, v1, tag(1, toldId(hi), "of a blob"), tag(4, toldId(v1), "of a tag")}
}

// edgeEncodings are of objects at the limits, and of objects that lead to none, to themselves twice, or to ids that nothing has.
func edgeEncodings() []string {
	var wide string
	for i := range 64 {
		wide += entry(byte(1+i%2), "n"+strconv.Itoa(10+i), numbered(i))
	}
	parents := []api.Id{}
	for i := range 8 {
		parents = append(parents, numbered(i%3))
	}
	return []string{
		blob(strings.Repeat("x", 4093)), blob("\x00"), blob("\x01\x02hi"), blob(strings.Repeat("\xff", 127)), blob(strings.Repeat("y", 128)),
		coded(2), coded(2, wide), coded(2, entry(1, strings.Repeat("n", 40), api.Id{})),
		commit(api.Id{}, 0, ""), commit(numbered(1), 127, strings.Repeat("t", 127), parents...),
		tag(2, api.Id{}, "\xff"), tag(3, numbered(2), strings.Repeat("v", 40)),
	}
}

// numbered is an id that nothing has.
func numbered(n int) api.Id {
	return api.Id{0: byte(n), 31: byte(255 - n)}
}

// wrongEncodings are of no object.
func wrongEncodings() []string {
	l := []string{
		"", "x", "\x00", "\x01", "\x02", "\x03", "\x04", "\x05", "\xff", "xyz", "hi",
		coded(0), coded(0, "hi"), coded(5), coded(5, "hi"), coded(255, "hi"), coded(11, "hi"),
		"\x01\x05a", "\x01\x82\x00hi", "\x01\x80\x00", "\x01\x80", "\x01" + strings.Repeat("\xff", 9) + "\x01",
		blob(strings.Repeat("x", 4094)), blob(strings.Repeat("x", 1<<16)),
		coded(2, entry(3, "a", numbered(1))), coded(2, entry(0, "a", numbered(1))), coded(2, entry(4, "a", numbered(1))),
		coded(2, entry(1, "", numbered(1))), coded(2, entry(1, "a/b", numbered(1))), coded(2, entry(1, "a\x00", numbered(1))),
		coded(2, entry(1, strings.Repeat("n", 41), numbered(1))),
		coded(2, entry(1, "b", numbered(1)), entry(1, "a", numbered(1))), coded(2, entry(1, "a", numbered(1)), entry(2, "a", numbered(2))),
		commit(numbered(1), 1, "m", make([]api.Id, 9)...),
		tag(0, numbered(1), "v"), tag(5, numbered(1), "v"), tag(3, numbered(1), ""), tag(3, numbered(1), "a/b"), tag(3, numbered(1), strings.Repeat("v", 41)),
		coded(3), coded(4),
	}
	var wide string
	for i := range 65 {
		wide += entry(1, "n"+strconv.Itoa(10+i), numbered(i))
	}
	l = append(l, coded(2, wide))
	for _, s := range history() {
		l = append(l, s+"\x00", s+s, s[:len(s)-1], s[1:], "\x00"+s)
	}
	return l
}

// manyEncodings are n of all four kinds, always the same ones for a seed, some of them equal.
func manyEncodings(n int, seed uint64) []string {
	x := seed
	draw := func(below int) int {
		x = x*6364136223846793005 + 1442695040888963407
		return int(x>>33) % below
	}
	l := []string{blob("")}
	for len(l) < n {
		id, other := toldId(l[draw(len(l))]), toldId(l[draw(len(l))])
		switch draw(5) {
		case 0:
			l = append(l, coded(2, entry(1, strconv.Itoa(draw(9)), id), entry(2, "x"+strconv.Itoa(draw(9)), other)))
		case 1:
			l = append(l, commit(id, byte(draw(128)), "m", other))
		case 2:
			l = append(l, tag(byte(1+draw(4)), id, "v"+strconv.Itoa(draw(99))))
		case 3:
			l = append(l, l[draw(len(l))])
		default:
			l = append(l, blob(strconv.Itoa(draw(10*n))))
		}
	}
	return l
}

// nearEncodings are the two of n blobs, whose ids have the most first bytes in common, and how many these are.
func nearEncodings(n int) (a, b string, common int) {
	ids := make([]api.Id, n)
	byId := map[api.Id]string{}
	for i := range ids {
		s := blob(strconv.Itoa(i))
		ids[i] = toldId(s)
		byId[ids[i]] = s
	}
	sort.Slice(ids, func(i, j int) bool { return bytes.Compare(ids[i][:], ids[j][:]) < 0 })
	for i := 1; i < n; i++ {
		k := 0
		for ids[i-1][k] == ids[i][k] {
			k++
		}
		if k > common {
			a, b, common = byId[ids[i-1]], byId[ids[i]], k
		}
	}
	return a, b, common
}
