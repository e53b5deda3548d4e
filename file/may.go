package file

import (
	"slices"

	"orlop/api"
)

// may: whether changes may be done. ErrArg, ErrNotFound, ErrLimit, ErrNoSpace.
func (f *Files) may(list []api.FileChange) api.Code {
	count, blocks := len(f.files), 0
	for _, c := range list {
		switch {
		case c.Gone:
			count--
		case !f.has(c.Name):
			count++
		}
		if !c.Gone {
			blocks += need(len(c.Data))
		}
	}
	switch {
	case !namesMay(list):
		return api.ErrArg
	case slices.ContainsFunc(list, func(c api.FileChange) bool { return c.Gone && !f.has(c.Name) }):
		return api.ErrNotFound
	case count > api.MaxFiles:
		return api.ErrLimit
	case blocks > f.Free():
		return api.ErrNoSpace
	}
	return api.OK
}

func (f *Files) has(name string) bool {
	_, there := f.files[name]
	return there
}

// namesMay: whether each name may be, and is in one change alone.
func namesMay(list []api.FileChange) bool {
	names := map[string]struct{}{}
	for _, c := range list {
		if len(c.Name) < 1 || len(c.Name) > api.MaxFileName {
			return false
		}
		names[c.Name] = struct{}{}
	}
	return len(names) == len(list)
}
