// Package copies: new memory for what was handed in to a layer and is handed out again.
package copies

import (
	"slices"

	"shipfitter/api"
)

// Placed is a placed module that shares no list with the one that it is a copy of.
func Placed(p api.Placed) api.Placed {
	p.Module.Exports = slices.Clone(p.Module.Exports)
	p.Module.Imports = slices.Clone(p.Module.Imports)
	p.Module.Patches = slices.Clone(p.Module.Patches)
	return p
}

// Registry is one that shares no list with the one that it is a copy of.
func Registry(r api.Registry) api.Registry {
	r.Kernel.Exports = slices.Clone(r.Kernel.Exports)
	r.Modules = slices.Clone(r.Modules)
	for i, p := range r.Modules {
		r.Modules[i] = Placed(p)
	}
	return r
}
