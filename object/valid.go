package object

import "knapsack/api"

// fieldsValid tells whether an object is valid, but for the length of its encoding, which the callers know.
func fieldsValid(o api.Object) bool {
	if !foreignFieldsZero(o) {
		return false
	}
	switch o.Kind {
	case api.Blob:
		return true
	case api.Tree:
		return entriesValid(o.Entries)
	case api.Commit:
		return len(o.Parents) <= api.MaxParents
	case api.Tag:
		return isKind(o.Of) && Name(o.Name)
	}
	return false
}

func isKind(kind int) bool {
	return kind >= api.Blob && kind <= api.Tag
}

// foreignFieldsZero tells whether all fields that belong to other kinds are zero.
func foreignFieldsZero(o api.Object) bool {
	return (o.Kind == api.Blob || blobFieldsZero(o)) &&
		(o.Kind == api.Tree || treeFieldsZero(o)) &&
		(o.Kind == api.Commit || commitFieldsZero(o)) &&
		(o.Kind == api.Tag || tagFieldsZero(o))
}

func blobFieldsZero(o api.Object) bool {
	return o.Data == ""
}

func treeFieldsZero(o api.Object) bool {
	return len(o.Entries) == 0
}

func commitFieldsZero(o api.Object) bool {
	return o.Tree == api.Id{} && len(o.Parents) == 0 && o.Time == 0 && o.Text == ""
}

func tagFieldsZero(o api.Object) bool {
	return o.Target == api.Id{} && o.Of == 0 && o.Name == ""
}

func entriesValid(entries []api.Entry) bool {
	if len(entries) > api.MaxEntries {
		return false
	}
	last := "" // ahead of every valid name
	for _, e := range entries {
		if !Name(e.Name) || e.Name <= last {
			return false
		}
		if e.Kind != api.Blob && e.Kind != api.Tree {
			return false
		}
		last = e.Name
	}
	return true
}
