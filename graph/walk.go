package graph

import (
	"maps"
	"slices"
	"strings"

	"shipfitter/api"
	"shipfitter/placed"
)

// wrong tells what is wrong with a list of placed modules; where they lie is not asked here.
func wrong(l []api.Placed) api.Errno {
	if e := placed.Wrong(l); e != api.OK {
		return e
	}
	met := map[string]int{}
	for i, p := range l {
		if _, twice := met[p.Module.Name]; twice {
			return api.ErrTwice
		}
		met[p.Module.Name] = i
	}
	return api.OK
}

// asks tells whether a module has an import from the one of that name.
func asks(m api.Module, name string) bool {
	return slices.ContainsFunc(m.Imports, func(i api.Import) bool { return i.Module == name })
}

// comeTo tells the names of all that are come to from one on, where next tells whether one comes right behind another.
func comeTo(l []api.Placed, name string, next func(at, other api.Module) bool) ([]string, api.Errno) {
	if e := wrong(l); e != api.OK {
		return nil, e
	}
	first := slices.IndexFunc(l, func(p api.Placed) bool { return p.Module.Name == name })
	if first < 0 {
		return nil, api.ErrNone
	}
	// The first one is not met ahead of the walk: its name is told only where the walk leads back to it.
	met := map[string]int{}
	work := []int{first}
	for len(work) > 0 {
		at := l[work[0]].Module
		work = work[1:]
		for i, p := range l {
			if _, ok := met[p.Module.Name]; !ok && next(at, p.Module) {
				met[p.Module.Name] = i
				work = append(work, i)
			}
		}
	}
	return slices.Sorted(maps.Keys(met)), api.OK
}

// rising are the modules of a list by their names.
func rising(l []api.Placed) []api.Module {
	var all []api.Module
	for _, p := range l {
		all = append(all, p.Module)
	}
	slices.SortFunc(all, func(a, b api.Module) int { return strings.Compare(a.Name, b.Name) })
	return all
}

// ordered tells the names of modules that are rising, each behind all that it needs; who needs itself never may stand next.
func ordered(all []api.Module) ([]string, api.Errno) {
	met := map[string]int{}
	waits := func(m api.Module) bool {
		_, ok := met[m.Name]
		return !ok
	}
	next := func(m api.Module) bool {
		return waits(m) && !slices.ContainsFunc(all, func(other api.Module) bool { return waits(other) && asks(m, other.Name) })
	}
	var names []string
	for range all {
		i := slices.IndexFunc(all, next)
		if i < 0 {
			return nil, api.ErrState
		}
		met[all[i].Name] = i
		names = append(names, all[i].Name)
	}
	return names, api.OK
}
