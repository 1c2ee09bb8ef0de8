package compact

import (
	"slices"

	"shipfitter/api"
	"shipfitter/copies"
	"shipfitter/region"
	"shipfitter/registry"
)

// packer moves the modules of a registry, which is its own.
type packer struct{ api.Registry }

// packed is a registry behind what is to be done. It need not be checked again: a module is moved by whole sectors, so no call of it becomes odd.
func packed(r api.Registry, do func(p *packer)) (api.Registry, api.Errno) {
	if e := registry.Check(r); e != api.OK {
		return api.Registry{}, e
	}
	p := &packer{copies.Registry(r)}
	do(p)
	return p.Registry, api.OK
}

// step moves the first module behind free sectors to the first one of them, and tells whether there is such a module.
func (p *packer) step() bool {
	runs, _ := region.Free(p.Modules)
	if len(runs) == 0 {
		return false
	}
	free := runs[0].First
	i := slices.IndexFunc(p.Modules, func(x api.Placed) bool { return x.First > free })
	if i < 0 {
		return false
	}
	p.Modules[i].First = free
	return true
}
