package plan

import (
	"slices"

	"shipfitter/api"
	"shipfitter/copies"
	"shipfitter/region"
	"shipfitter/registry"
)

// planner makes of a registry, which is its own, what becomes of it.
type planner struct{ api.Registry }

// planned is what becomes of a registry by what is to be done. Only what is right comes of one that is right.
func planned(r api.Registry, do func(p *planner) api.Errno) (api.Registry, api.Errno) {
	if e := registry.Check(r); e != api.OK {
		return api.Registry{}, e
	}
	p := &planner{copies.Registry(r)}
	if e := do(p); e != api.OK {
		return api.Registry{}, e
	}
	if e := registry.Check(p.Registry); e != api.OK {
		return api.Registry{}, e
	}
	return p.Registry, api.OK
}

// find tells which of the modules has a name: -1, if none has.
func (p *planner) find(name string) int {
	return slices.IndexFunc(p.Modules, func(x api.Placed) bool { return x.Module.Name == name })
}

// take out one of the modules.
func (p *planner) take(i int) api.Placed {
	taken := p.Modules[i]
	p.Modules = slices.Delete(p.Modules, i, i+1)
	return taken
}

// put a module into a sector, ahead of those that lie behind it.
func (p *planner) put(m api.Module, first int) {
	i := slices.IndexFunc(p.Modules, func(x api.Placed) bool { return x.First > first })
	if i < 0 {
		i = len(p.Modules)
	}
	p.Modules = slices.Insert(p.Modules, i, copies.Placed(api.Placed{Module: m, First: first}))
}

// room for so many sectors: from a wanted one on, if they are free there.
func (p *planner) room(wanted, many int) (int, api.Errno) {
	runs, e := region.Free(p.Modules)
	if e != api.OK {
		return 0, e
	}
	if slices.ContainsFunc(runs, func(r api.Run) bool { return r.First <= wanted && wanted+many <= r.First+r.Many }) {
		return wanted, api.OK
	}
	return region.First(p.Modules, many)
}
