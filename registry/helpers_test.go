package registry_test

import (
	"reflect"
	"slices"
	"strings"
	"testing"

	"shipfitter/api"
	"shipfitter/registry"
)

// world is all that a call of the package is asked with.
type world struct {
	r    api.Registry
	name string
}

// sample: nothing is wrong with it. app asks lib and the kernel, lib asks the kernel, end asks nobody.
func sample() world {
	app := api.Module{
		Name: "app", Major: 1, Text: strings.Repeat("abcd", 15),
		Exports: []api.Export{{Name: "f", At: 59}},
		Imports: []api.Import{{Module: "lib", Name: "f", Major: 1, Minor: 1}, {Module: "kernel", Name: "odd", Major: 1, Minor: 2}},
		Patches: []api.Patch{{Kind: api.PatchWord, At: 0, Symbol: 0, Add: 1}, {Kind: api.PatchCall, At: 57, Symbol: 1}},
	}
	lib := api.Module{
		Name: "lib", Major: 1, Minor: 2, Text: strings.Repeat("efgh", 25),
		Exports: []api.Export{{Name: "g", At: 0}, {Name: "f", At: 4}},
		Imports: []api.Import{{Module: "kernel", Name: "f", Major: 1}},
		Patches: []api.Patch{{Kind: api.PatchCall, At: 96, Symbol: 0}},
	}
	end := api.Module{
		Name: "end", Text: strings.Repeat("ijkl", 16),
		Patches: []api.Patch{{Kind: api.PatchCall, At: 61, Symbol: -1, Add: 61}},
	}
	k := api.Kernel{Major: 1, Minor: 2, Exports: []api.Export{{Name: "f", At: 100}, {Name: "odd", At: 33}}}
	return world{api.Registry{Kernel: k, Modules: []api.Placed{{Module: app, First: 1}, {Module: lib, First: 4}, {Module: end, First: 15}}}, "lib"}
}

// changed is the sample with changes.
func changed(changes ...func(w *world)) world {
	w := sample()
	for _, change := range changes {
		change(&w)
	}
	return w
}

// copied shares no list with what it is a copy of.
func copied(r api.Registry) api.Registry {
	r.Kernel.Exports = slices.Clone(r.Kernel.Exports)
	r.Modules = slices.Clone(r.Modules)
	for i, p := range r.Modules {
		m := &r.Modules[i].Module
		m.Exports, m.Imports, m.Patches = slices.Clone(p.Module.Exports), slices.Clone(p.Module.Imports), slices.Clone(p.Module.Patches)
	}
	return r
}

// one placed module of so many bytes, which asks for f of others.
func one(first, bytes int, name string, others ...string) api.Placed {
	m := api.Module{Name: name, Major: 1, Minor: 1, Text: strings.Repeat("w", bytes), Exports: []api.Export{{Name: "f", At: 0}}}
	for _, o := range others {
		m.Imports = append(m.Imports, api.Import{Module: o, Name: "f", Major: 1, Minor: 1})
	}
	return api.Placed{Module: m, First: first}
}

// of is a registry of modules, with a kernel that has an f.
func of(l ...api.Placed) api.Registry {
	return api.Registry{Kernel: api.Kernel{Major: 1, Minor: 1, Exports: []api.Export{{Name: "f", At: 8}}}, Modules: l}
}

func check(t *testing.T, what string, r api.Registry, want api.Errno) {
	t.Helper()
	if e := registry.Check(r); e != want {
		t.Errorf("%s: Check = %d; must be %d", what, e, want)
	}
}

func find(t *testing.T, what string, w world, want api.Placed, e api.Errno) {
	t.Helper()
	if got, f := registry.Find(w.r, w.name); !reflect.DeepEqual(got, want) || f != e {
		t.Errorf("%s: Find of %q = %v, %d; must be %v, %d", what, w.name, got, f, want, e)
	}
}

// wrong holds Check and Find to an error, whichever name is asked for.
func wrong(t *testing.T, what string, r api.Registry, e api.Errno) {
	t.Helper()
	check(t, what, r, e)
	for _, name := range []string{"a", "lib", "none", ""} {
		find(t, what, world{r, name}, api.Placed{}, e)
	}
}
