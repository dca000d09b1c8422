package ref

import (
	"slices"

	"knapsack/api"
)

// Update does updates: P9.2.
func Update(l []api.Ref, u []api.Update, all bool) ([]api.Ref, []api.Errno, api.Errno) {
	if !Fine(l) {
		return nil, nil, api.ErrArg
	}
	after, told := applyEach(slices.Clone(l), u)
	if all && slices.ContainsFunc(told, func(e api.Errno) bool { return e != api.OK }) {
		markOthers(told)
		return slices.Clone(l), told, api.OK
	}
	return after, told, api.OK
}

// applyEach are the refs after the updates, and each one's error; it changes the list that it is given.
func applyEach(l []api.Ref, u []api.Update) ([]api.Ref, []api.Errno) {
	told := make([]api.Errno, len(u))
	seen := make(map[string]struct{}) // also the names of updates that had an error
	for i, one := range u {
		_, again := seen[one.Name]
		seen[one.Name] = struct{}{}
		if again {
			told[i] = api.ErrRef
			continue
		}
		l, told[i] = apply(l, one)
	}
	return l, told
}

// apply are the refs after an update whose name no earlier one has; it changes the list that it is given.
func apply(l []api.Ref, u api.Update) ([]api.Ref, api.Errno) {
	if !Name(u.Name) || isNone(u.Old) && isNone(u.New) {
		return l, api.ErrRef
	}
	// No ref of a valid list has the zero id, so that Find's answer for a ref that is not there is the lease on none.
	now, there := Find(l, u.Name)
	if now != u.Old {
		return l, api.ErrLease
	}
	if !there && len(l) == api.MaxRefs {
		return l, api.ErrLimit
	}
	return set(l, u.Name, u.New), api.OK
}

// set are the refs with this one set, or without it if its id is none; it changes the list that it is given.
func set(l []api.Ref, name string, id api.Id) []api.Ref {
	from := slices.IndexFunc(l, func(r api.Ref) bool { return r.Name >= name })
	if from < 0 {
		from = len(l)
	}
	to := from
	if from < len(l) && l[from].Name == name {
		to++
	}
	if isNone(id) {
		return slices.Delete(l, from, to)
	}
	return slices.Replace(l, from, to, api.Ref{Name: name, Id: id})
}

// markOthers gives the updates that have no error of their own that of a whole that failed.
func markOthers(told []api.Errno) {
	for i, e := range told {
		if e == api.OK {
			told[i] = api.ErrState
		}
	}
}
