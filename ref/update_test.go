package ref

import (
	"fmt"
	"slices"
	"strings"
	"testing"

	"knapsack/api"
)

// described are the first few updates of a list, as a failed test tells them.
func described(u []api.Update) string {
	s := fmt.Sprint(len(u), " updates")
	for _, one := range u[:min(len(u), 6)] {
		s += fmt.Sprintf(" [%.40q %x..%x %x..%x]", one.Name, one.Old[:2], one.Old[30:], one.New[:2], one.New[30:])
	}
	return s
}

func checkUpdate(t *testing.T, l []api.Ref, u []api.Update, all bool, want []api.Ref, told []api.Errno, e api.Errno) {
	t.Helper()
	m, gt, ge := Update(l, u, all)
	if !slices.Equal(m, want) || !slices.Equal(gt, told) || ge != e {
		t.Errorf("Update of %s by %s, %v: %s, %v, %d, not %s, %v, %d", shown(l), described(u), all, shown(m), gt, ge, shown(want), told, e)
	}
}

// checkAsTold tries updates with all false and with all true, and returns the errors that they have with all false.
func checkAsTold(t *testing.T, l []api.Ref, u []api.Update) []api.Errno {
	t.Helper()
	m, told, e := toldUpdate(l, u, true)
	checkUpdate(t, l, u, true, m, told, e)
	m, told, e = toldUpdate(l, u, false)
	checkUpdate(t, l, u, false, m, told, e)
	return told
}

// checkBoth tries updates that have these errors: with all true, one error is enough that nothing changes.
func checkBoth(t *testing.T, l []api.Ref, u []api.Update, want []api.Ref, told ...api.Errno) {
	t.Helper()
	checkUpdate(t, l, u, false, want, told, api.OK)
	if !slices.ContainsFunc(told, func(e api.Errno) bool { return e != api.OK }) {
		checkUpdate(t, l, u, true, want, told, api.OK)
		return
	}
	whole := slices.Clone(told)
	for i, e := range told {
		if e == api.OK {
			whole[i] = api.ErrState
		}
	}
	checkUpdate(t, l, u, true, l, whole, api.OK)
}

// up is an update between the ids of two numbers; 0 is the zero id.
func up(name string, from, to byte) api.Update {
	return api.Update{Name: name, Old: id(from), New: id(to)}
}

func ups(u ...api.Update) []api.Update {
	return u
}

// refs are those of these names, each followed by the number of its id.
func refs(of ...any) []api.Ref {
	var l []api.Ref
	for i := 0; i < len(of); i += 2 {
		l = append(l, api.Ref{Name: of[i].(string), Id: id(byte(of[i+1].(int)))})
	}
	return l
}

// repeated is the error n times.
func repeated(e api.Errno, n int) []api.Errno {
	return slices.Repeat([]api.Errno{e}, n)
}

// P9.2: one update that sets a ref, changes one, or deletes one.
func TestUpdateOne(t *testing.T) {
	b := refs("b", 2)
	checkBoth(t, nil, ups(up("a", 0, 1)), refs("a", 1), api.OK)
	checkBoth(t, b, ups(up("a", 0, 1)), refs("a", 1, "b", 2), api.OK)
	checkBoth(t, b, ups(up("c", 0, 1)), refs("b", 2, "c", 1), api.OK)
	checkBoth(t, b, ups(up("bb", 0, 1)), refs("b", 2, "bb", 1), api.OK)
	checkBoth(t, b, ups(up("B", 0, 1)), refs("B", 1, "b", 2), api.OK)
	checkBoth(t, refs("a", 1, "c", 3), ups(up("b", 0, 2)), refs("a", 1, "b", 2, "c", 3), api.OK)
	checkBoth(t, b, ups(up("b", 2, 3)), refs("b", 3), api.OK)
	checkBoth(t, b, ups(up("b", 2, 0)), nil, api.OK)
	three := refs("a", 1, "b", 2, "c", 3)
	checkBoth(t, three, ups(up("a", 1, 9)), refs("a", 9, "b", 2, "c", 3), api.OK)
	checkBoth(t, three, ups(up("b", 2, 9)), refs("a", 1, "b", 9, "c", 3), api.OK)
	checkBoth(t, three, ups(up("c", 3, 9)), refs("a", 1, "b", 2, "c", 9), api.OK)
	checkBoth(t, three, ups(up("a", 1, 0)), refs("b", 2, "c", 3), api.OK)
	checkBoth(t, three, ups(up("b", 2, 0)), refs("a", 1, "c", 3), api.OK)
	checkBoth(t, three, ups(up("c", 3, 0)), refs("a", 1, "b", 2), api.OK)
	checkBoth(t, three, ups(up("b", 2, 1)), refs("a", 1, "b", 1, "c", 3), api.OK) // refs may have the same id
}

// P9.2: no update at all.
func TestUpdateNone(t *testing.T) {
	for _, l := range goodLists() {
		for _, u := range [][]api.Update{nil, {}} {
			checkUpdate(t, l, u, false, l, nil, api.OK)
			checkUpdate(t, l, u, true, l, nil, api.OK)
		}
	}
}

// P9.2: the lease from none, from the id that is there, and from another.
func TestUpdateLease(t *testing.T) {
	l := refs("a", 1, "b", 2)
	checkBoth(t, l, ups(up("c", 0, 3)), refs("a", 1, "b", 2, "c", 3), api.OK)
	checkBoth(t, l, ups(up("a", 0, 3)), l, api.ErrLease)
	checkBoth(t, l, ups(up("a", 0, 1)), l, api.ErrLease) // though it is that already
	checkBoth(t, l, ups(up("a", 2, 3)), l, api.ErrLease)
	checkBoth(t, l, ups(up("a", 2, 1)), l, api.ErrLease)
	checkBoth(t, l, ups(up("a", 2, 0)), l, api.ErrLease)
	checkBoth(t, l, ups(up("c", 1, 3)), l, api.ErrLease)
	checkBoth(t, l, ups(up("c", 1, 0)), l, api.ErrLease) // though it is gone already
	checkBoth(t, l, ups(up("c", 3, 3)), l, api.ErrLease)
	checkBoth(t, nil, ups(up("a", 1, 2)), nil, api.ErrLease)
	checkBoth(t, nil, ups(up("a", 1, 0)), nil, api.ErrLease)
	checkBoth(t, refs("ab", 1), ups(up("a", 1, 2)), refs("ab", 1), api.ErrLease) // of another name that begins so
	checkBoth(t, refs("a", 1), ups(up("ab", 1, 2)), refs("a", 1), api.ErrLease)
}

// P9.2: an update from an id to itself changes nothing, but needs its lease.
func TestUpdateToTheSame(t *testing.T) {
	l := refs("a", 1, "b", 2)
	checkBoth(t, l, ups(up("a", 1, 1)), l, api.OK)
	checkBoth(t, l, ups(up("b", 2, 2), up("a", 1, 1)), l, api.OK, api.OK)
	checkBoth(t, l, ups(up("a", 2, 2)), l, api.ErrLease)
	checkBoth(t, l, ups(up("a", 0, 0)), l, api.ErrRef)
	checkBoth(t, l, ups(up("c", 0, 0)), l, api.ErrRef)
	full := many(64)
	for _, r := range full {
		checkBoth(t, full, ups(api.Update{Name: r.Name, Old: r.Id, New: r.Id}), full, api.OK)
	}
}

// P9.2: every byte of an id counts for the lease, and for whether it is the zero id.
func TestUpdateEveryByteOfIds(t *testing.T) {
	now := someId(7)
	l := oneRef("a", now)
	for i := range 32 {
		other := now
		other[i] ^= 1
		checkBoth(t, l, ups(api.Update{Name: "a", Old: other, New: id(1)}), l, api.ErrLease)
		checkBoth(t, l, ups(api.Update{Name: "a", Old: now, New: other}), oneRef("a", other), api.OK)
		for _, b := range []byte{1, 128, 255} {
			var one api.Id
			one[i] = b
			checkBoth(t, nil, ups(api.Update{Name: "a", New: one}), oneRef("a", one), api.OK)
			checkBoth(t, nil, ups(api.Update{Name: "a", Old: one}), nil, api.ErrLease)
			checkBoth(t, oneRef("a", one), ups(api.Update{Name: "a", Old: one}), nil, api.OK)
			checkBoth(t, l, ups(api.Update{Name: "a", Old: now, New: one}), oneRef("a", one), api.OK)
		}
	}
}

// P9.2: several updates, each to what those before it produced.
func TestUpdateSeveral(t *testing.T) {
	checkBoth(t, nil, ups(up("b", 0, 2), up("a", 0, 1), up("c", 0, 3)), refs("a", 1, "b", 2, "c", 3), api.OK, api.OK, api.OK)
	l := refs("a", 1, "b", 2)
	checkBoth(t, l, ups(up("a", 1, 0), up("b", 2, 0)), nil, api.OK, api.OK)
	checkBoth(t, l, ups(up("a", 1, 2), up("b", 2, 1)), refs("a", 2, "b", 1), api.OK, api.OK)
	checkBoth(t, l, ups(up("a", 1, 0), up("aa", 0, 1), up("b", 2, 3)), refs("aa", 1, "b", 3), api.OK, api.OK, api.OK)
	checkBoth(t, l, ups(up("a", 1, 0), up("c", 0, 4), up("b", 2, 0), up("d", 0, 5)), refs("c", 4, "d", 5), api.OK, api.OK, api.OK, api.OK)
	checkBoth(t, l, ups(up("a", 1, 0), up("b", 1, 4), up("c", 0, 5)), refs("b", 2, "c", 5), api.OK, api.ErrLease, api.OK)
	checkBoth(t, l, ups(up("b", 9, 0), up("a", 1, 9)), refs("a", 9, "b", 2), api.ErrLease, api.OK)
	checkBoth(t, l, ups(up("a", 9, 9), up("b", 9, 9), up("c", 9, 9)), l, api.ErrLease, api.ErrLease, api.ErrLease)
}

// P9.2: names that may not be, whatever else is wrong with the update.
func TestUpdateWrongNames(t *testing.T) {
	l := refs("a", 1, "b", 2)
	for _, name := range wrongNames() {
		for _, from := range []byte{0, 1, 9} {
			for _, to := range []byte{0, 1, 9} {
				checkBoth(t, nil, ups(up(name, from, to)), nil, api.ErrRef)
				checkBoth(t, l, ups(up(name, from, to)), l, api.ErrRef)
				checkBoth(t, many(64), ups(up(name, from, to)), many(64), api.ErrRef)
				checkBoth(t, l, ups(up("a", 1, 3), up(name, from, to), up("c", 0, 4)), refs("a", 3, "b", 2, "c", 4), api.OK, api.ErrRef, api.OK)
			}
		}
		checkBoth(t, l, ups(up(name, 0, 1), up(name, 0, 1), up("c", 0, 4)), refs("a", 1, "b", 2, "c", 4), api.ErrRef, api.ErrRef, api.OK)
	}
	for _, name := range goodNames() {
		checkBoth(t, nil, ups(up(name, 0, 1)), refs(name, 1), api.OK)
		checkBoth(t, refs(name, 1), ups(up(name, 1, 2)), refs(name, 2), api.OK)
		checkBoth(t, refs(name, 1), ups(up(name, 1, 0)), nil, api.OK)
	}
}

// P9.2: a name that an earlier update has, also one that had an error; only the first one counts.
func TestUpdateTwice(t *testing.T) {
	l := refs("a", 1, "b", 2)
	checkBoth(t, l, ups(up("a", 1, 3), up("a", 3, 4)), refs("a", 3, "b", 2), api.OK, api.ErrRef)
	checkBoth(t, l, ups(up("a", 1, 3), up("a", 1, 3)), refs("a", 3, "b", 2), api.OK, api.ErrRef)
	checkBoth(t, l, ups(up("a", 1, 0), up("a", 0, 1)), refs("b", 2), api.OK, api.ErrRef)
	checkBoth(t, l, ups(up("c", 0, 3), up("c", 3, 0)), refs("a", 1, "b", 2, "c", 3), api.OK, api.ErrRef)
	checkBoth(t, l, ups(up("a", 9, 3), up("a", 1, 3)), l, api.ErrLease, api.ErrRef)
	checkBoth(t, l, ups(up("a", 0, 0), up("a", 1, 3)), l, api.ErrRef, api.ErrRef)
	checkBoth(t, l, ups(up("a", 1, 3), up("a", 0, 0)), refs("a", 3, "b", 2), api.OK, api.ErrRef)
	checkBoth(t, l, ups(up("a", 1, 3), up("b", 2, 4), up("a", 3, 5)), refs("a", 3, "b", 4), api.OK, api.OK, api.ErrRef)
	checkBoth(t, l, ups(up("a", 9, 3), up("b", 2, 4), up("a", 1, 5)), refs("a", 1, "b", 4), api.ErrLease, api.OK, api.ErrRef)
	checkBoth(t, l, ups(up("a", 1, 3), up("a", 3, 4), up("a", 4, 5)), refs("a", 3, "b", 2), api.OK, api.ErrRef, api.ErrRef)
	checkBoth(t, l, ups(up("a", 1, 3), up("aa", 0, 4), up("A", 0, 5)), refs("A", 5, "a", 3, "aa", 4, "b", 2), api.OK, api.OK, api.OK)
	full := many(64)
	deleted := api.Update{Name: full[9].Name, Old: full[9].Id}
	checkBoth(t, full, ups(up("z", 0, 1), deleted, up("z", 0, 1)), slices.Delete(many(64), 9, 10), api.ErrLimit, api.OK, api.ErrRef)
}

// P9.2: an update that would make more refs than may be, and those that would not.
func TestUpdateAtTheLimit(t *testing.T) {
	full := many(64)
	for _, name := range []string{"a", numbered(1), numbered(63), numbered(125), "z"} {
		checkBoth(t, full, ups(up(name, 0, 1)), full, api.ErrLimit)
		more := append(many(63), api.Ref{Name: name, Id: id(1)})
		slices.SortFunc(more, func(a, b api.Ref) int { return strings.Compare(a.Name, b.Name) })
		checkBoth(t, many(63), ups(up(name, 0, 1)), more, api.OK)
		checkBoth(t, many(63), ups(up(name, 0, 1), up("y", 0, 1)), more, api.OK, api.ErrLimit)
	}
	for i, r := range full {
		changed, without, instead := many(64), slices.Delete(many(64), i, i+1), many(64)
		changed[i].Id = id(9)
		instead[i] = api.Ref{Name: r.Name + "x", Id: id(9)}
		set, gone := api.Update{Name: r.Name, Old: r.Id, New: id(9)}, api.Update{Name: r.Name, Old: r.Id}
		other := up(r.Name+"x", 0, 9)
		checkBoth(t, full, ups(set), changed, api.OK)
		checkBoth(t, full, ups(gone), without, api.OK)
		checkBoth(t, full, ups(gone, other), instead, api.OK, api.OK)
		checkBoth(t, full, ups(other, gone), without, api.ErrLimit, api.OK)
		checkBoth(t, full, ups(gone, other, up("z", 0, 1)), instead, api.OK, api.OK, api.ErrLimit)
		checkBoth(t, full, ups(set, other), changed, api.OK, api.ErrLimit)
	}
}

// P9.2: from none to as many refs as may be, and beyond; and back to none.
func TestUpdateUpToTheLimit(t *testing.T) {
	for _, n := range []int{1, 2, 63, 64, 65, 66, 100, 200} {
		var set, gone []api.Update
		for _, r := range many(n) {
			set = append(set, api.Update{Name: r.Name, New: r.Id})
			gone = append(gone, api.Update{Name: r.Name, Old: r.Id})
		}
		kept := min(n, 64)
		told := append(repeated(api.OK, kept), repeated(api.ErrLimit, n-kept)...)
		checkBoth(t, nil, set, many(kept), told...)
		told = append(repeated(api.OK, kept), repeated(api.ErrLease, n-kept)...)
		checkBoth(t, many(kept), gone, nil, told...)
		slices.Reverse(set)
		checkAsTold(t, nil, set)
		checkAsTold(t, many(kept), set)
	}
}

// P9.2: of several errors at once, the one that is named first.
func TestUpdateSeveralErrors(t *testing.T) {
	full := many(64)
	checkBoth(t, full, ups(up("z", 1, 2)), full, api.ErrLease) // and one too many
	checkBoth(t, full, ups(up("z", 1, 0)), full, api.ErrLease)
	checkBoth(t, full, ups(up("z", 0, 0)), full, api.ErrRef)
	checkBoth(t, full, ups(up("", 0, 1)), full, api.ErrRef)                                            // and one too many
	checkBoth(t, full, ups(up("z z", 1, 2)), full, api.ErrRef)                                         // and another lease, and one too many
	checkBoth(t, full, ups(up("z", 0, 1), up("z", 0, 1)), full, api.ErrLimit, api.ErrRef)              // and one too many again
	checkBoth(t, full, ups(up("z", 1, 1), up("z", 1, 1)), full, api.ErrLease, api.ErrRef)              // and another lease again
	checkBoth(t, full, ups(up(full[0].Name, 0, 0)), full, api.ErrRef)                                  // and another lease
	checkBoth(t, full, ups(up(full[0].Name, 0, 1), up("z", 0, 1)), full, api.ErrLease, api.ErrLimit)   // one after the other
	checkBoth(t, full, ups(up("z", 0, 1), up("y", 1, 1), up("x", 0, 0), up("x", 0, 1), up(" ", 1, 1)), // and a name that an earlier one has
		full, api.ErrLimit, api.ErrLease, api.ErrRef, api.ErrRef, api.ErrRef)
}

// P9.2: an update with each error, at every place among others.
func TestUpdateErrorAnywhere(t *testing.T) {
	others := ups(up("b", 2, 5), up("c", 0, 6), up("a", 1, 0), up("d", 4, 4))
	l, after := refs("a", 1, "b", 2, "d", 4), refs("b", 5, "c", 6, "d", 4)
	checkBoth(t, l, others, after, repeated(api.OK, 4)...)
	for _, c := range []struct {
		one api.Update
		e   api.Errno
	}{
		{up("", 0, 1), api.ErrRef}, {up("x y", 0, 1), api.ErrRef}, {up("x", 0, 0), api.ErrRef}, {up("x", 1, 2), api.ErrLease}, {up("x", 1, 0), api.ErrLease},
	} {
		for i := range len(others) + 1 {
			told := slices.Insert(repeated(api.OK, 4), i, c.e)
			checkBoth(t, l, slices.Insert(slices.Clone(others), i, c.one), after, told...)
		}
		told := append(append([]api.Errno{c.e}, repeated(api.OK, 4)...), api.ErrRef)
		checkBoth(t, l, slices.Concat(ups(c.one), others, ups(c.one)), after, told...)
	}
	for i := range len(others) + 1 {
		full := many(64)
		var kept []api.Update
		for _, r := range full[:4] {
			kept = append(kept, api.Update{Name: r.Name, Old: r.Id, New: id(1)})
		}
		after := many(64)
		for j := range 4 {
			after[j].Id = id(1)
		}
		checkBoth(t, full, slices.Insert(kept, i, up("x", 0, 1)), after, slices.Insert(repeated(api.OK, 4), i, api.ErrLimit)...)
	}
}

// P9.2: refs that may not be, whatever the updates are.
func TestUpdateOfWrongRefs(t *testing.T) {
	for _, l := range wrongLists() {
		for _, u := range [][]api.Update{nil, {}, ups(up("q", 0, 1)), ups(up("a", 1, 2)), ups(up("a", 0, 0)), ups(up("", 1, 1)), ups(up("a", 1, 0), up("b", 2, 0))} {
			checkUpdate(t, l, u, false, nil, nil, api.ErrArg)
			checkUpdate(t, l, u, true, nil, nil, api.ErrArg)
		}
	}
}

// P9.2, P9.3: all short lists of updates of a few names and ids; what they produce may be.
func TestUpdateAllLists(t *testing.T) {
	of := products([]string{"a", "b"}, []api.Id{id(0), id(1), id(2)})
	of = append(of, up("", 0, 1), up("c", 0, 1))
	count := map[api.Errno]int{}
	for _, l := range [][]api.Ref{nil, refs("a", 1), refs("a", 2), refs("b", 1), refs("a", 1, "b", 2), refs("a", 2, "b", 2), refs("aa", 1)} {
		allUpdates(of, 3, nil, func(u []api.Update) {
			for _, e := range checkAsTold(t, l, u) {
				count[e]++
			}
			m, _, _ := Update(l, u, false)
			checkFine(t, m, true)
		})
	}
	if count[api.OK] < 1000 || count[api.ErrRef] < 1000 || count[api.ErrLease] < 1000 {
		t.Errorf("too few of one kind: %v", count)
	}
}

// P9.2, P9.3: all short lists of updates where there are about as many refs as may be.
func TestUpdateAllListsAtTheLimit(t *testing.T) {
	first, last := many(64)[0], many(62)[61]
	of := ups(
		api.Update{Name: first.Name, Old: first.Id}, api.Update{Name: first.Name, Old: first.Id, New: id(1)},
		api.Update{Name: last.Name, Old: last.Id}, api.Update{Name: last.Name, Old: id(1)},
		up("a", 0, 1), up(numbered(1), 0, 1), up("z", 0, 1), up("z", 1, 2), up("y", 0, 0))
	count := map[api.Errno]int{}
	for _, n := range []int{62, 63, 64} {
		l := many(n)
		allUpdates(of, 4, nil, func(u []api.Update) {
			for _, e := range checkAsTold(t, l, u) {
				count[e]++
			}
		})
	}
	if count[api.OK] < 1000 || count[api.ErrLimit] < 1000 || count[api.ErrRef] < 1000 || count[api.ErrLease] < 1000 {
		t.Errorf("too few of one kind: %v", count)
	}
}

// P9.2, P9.3: long lists of updates, one after the other, each to what the one before it produced; the refs may be all the time.
func TestUpdateLong(t *testing.T) {
	var l []api.Ref
	count := map[api.Errno]int{}
	for seed := range uint64(600) {
		u := someUpdates(l, int(seed%70), seed*977)
		for _, e := range checkAsTold(t, l, u) {
			count[e]++
		}
		m, _, e := Update(l, u, seed%5 == 0)
		if e != api.OK {
			t.Fatalf("Update of %s: %d", shown(l), e)
		}
		checkFine(t, m, true)
		checkPut(t, m, text(t, m), api.OK)
		checkGet(t, text(t, m), m, api.OK)
		l = m
	}
	if count[api.OK] < 1000 || count[api.ErrLimit] < 100 || count[api.ErrRef] < 1000 || count[api.ErrLease] < 1000 {
		t.Errorf("too few of one kind: %v", count)
	}
}

// P9.2: very many updates, of names that differ and of one name.
func TestUpdateVeryMany(t *testing.T) {
	var differ, same []api.Update
	for i := range 200000 {
		differ = append(differ, up(fmt.Sprintf("n%06d", i), 0, 1))
		same = append(same, up("a", 0, 1))
	}
	m, told, e := Update(nil, differ, false)
	if len(m) != 64 || e != api.OK || !slices.Equal(told, append(repeated(api.OK, 64), repeated(api.ErrLimit, len(differ)-64)...)) {
		t.Errorf("names that differ: %s, %d", shown(m), e)
	}
	m, told, e = Update(nil, same, false)
	if !slices.Equal(m, refs("a", 1)) || e != api.OK || !slices.Equal(told, append(repeated(api.OK, 1), repeated(api.ErrRef, len(same)-1)...)) {
		t.Errorf("the same name: %s, %d", shown(m), e)
	}
}

// P9.3: updates of different names that all succeed, in every order.
func TestUpdateInAnyOrder(t *testing.T) {
	l := refs("a", 1, "b", 2, "c", 3, "d", 4)
	for _, u := range [][]api.Update{
		ups(up("a", 1, 9), up("b", 2, 9)),
		ups(up("a", 1, 0), up("aa", 0, 5), up("b", 2, 6)),
		ups(up("a", 1, 0), up("b", 2, 0), up("c", 3, 0), up("d", 4, 0)),
		ups(up("e", 0, 1), up("!", 0, 2), up("bb", 0, 3), up("~", 0, 4), up("B", 0, 5)),
		ups(up("d", 4, 1), up("c", 3, 0), up("cc", 0, 3), up("b", 2, 2), up("a", 1, 4), up("0", 0, 1)),
	} {
		want, _, _ := toldUpdate(l, u, false)
		tried := 0
		orders(u, nil, func(u []api.Update) {
			tried++
			checkBoth(t, l, u, want, repeated(api.OK, len(u))...)
		})
		if tried < 2 {
			t.Errorf("only %d were tried", tried)
		}
	}
}

// P9.3: many updates that all succeed, in some orders; and, where there are as many refs as may be, those orders in which all succeed.
func TestUpdateInSomeOrders(t *testing.T) {
	for _, n := range []int{10, 30, 44} {
		l := many(n)
		var u []api.Update
		for i, r := range l[:10] {
			u = append(u, api.Update{Name: r.Name, Old: r.Id, New: someId(uint64(i + 500))})
		}
		for i := range 20 {
			u = append(u, up(numbered(2*i+1), 0, byte(i+1)))
		}
		want, _, _ := toldUpdate(l, u, true)
		for seed := range uint64(50) {
			checkBoth(t, l, shuffled(u, seed), want, repeated(api.OK, len(u))...)
		}
	}
	full := many(64)
	u := ups(api.Update{Name: full[0].Name, Old: full[0].Id}, api.Update{Name: full[63].Name, Old: full[63].Id}, up("a", 0, 1), up("z", 0, 1))
	want, _, _ := toldUpdate(full, u, true)
	succeeded := 0
	orders(u, nil, func(u []api.Update) {
		if told := checkAsTold(t, full, u); slices.Equal(told, repeated(api.OK, 4)) {
			succeeded++
			checkBoth(t, full, u, want, told...)
		}
	})
	if succeeded != 8 { // in the others, a ref is added ahead of those that are deleted
		t.Errorf("%d orders succeeded", succeeded)
	}
}

// P0: arguments stay as they are, behind their ends too, results are new, and nothing is kept.
func TestUpdateKeepsNothing(t *testing.T) {
	whole := refs("a", 1, "b", 2, "c", 3, "x", 8, "y", 9)
	before := slices.Clone(whole)
	l := whole[:3] // there is room behind it, that is not its own
	for _, u := range [][]api.Update{
		nil, ups(up("a", 1, 0)), ups(up("c", 3, 0)), ups(up("d", 0, 4)), ups(up("!", 0, 4)), ups(up("b", 2, 7)), ups(up("b", 2, 2)),
		ups(up("a", 1, 0), up("d", 0, 4), up("e", 0, 5)), ups(up("a", 9, 9)), ups(up("a", 1, 0), up("b", 9, 9)), ups(up("", 0, 1), up("d", 0, 4)),
	} {
		given := slices.Clone(u)
		for _, all := range []bool{false, true, false, true} {
			want, told, e := toldUpdate(l, u, all)
			m, gt, ge := Update(l, u, all)
			if !slices.Equal(m, want) || !slices.Equal(gt, told) || ge != e {
				t.Errorf("Update by %s, %v: %s, %v, %d", described(u), all, shown(m), gt, ge)
			}
			m = m[:cap(m)]
			for i := range m {
				m[i] = api.Ref{Name: "other"} // no later result, and no argument, may have these
			}
			for i := range gt {
				gt[i] = 99
			}
			if !slices.Equal(whole, before) || !slices.Equal(u, given) {
				t.Fatalf("Update by %s, %v changed what it was given: %s", described(given), all, shown(whole))
			}
		}
	}
	wrong := refs("b", 1, "a", 2)
	Update(wrong, ups(up("a", 2, 0)), false)
	if !slices.Equal(wrong, refs("b", 1, "a", 2)) {
		t.Errorf("refs that may not be were changed: %s", shown(wrong))
	}
}
