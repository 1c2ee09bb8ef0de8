package compact_test

import (
	"fmt"
	"slices"
	"strings"
	"testing"

	"shipfitter/api"
	"shipfitter/compact"
)

// mod is a module of so many bytes, which asks for f of others; its last bytes call itself.
func mod(name string, bytes int, others ...string) api.Module {
	m := api.Module{Name: name, Major: 1, Minor: 2, Text: strings.Repeat(name[:1], bytes), Exports: []api.Export{{Name: "f", At: bytes - 2}}}
	for i, o := range others {
		m.Imports = append(m.Imports, api.Import{Module: o, Name: "f", Major: 1, Minor: 1})
		m.Patches = append(m.Patches, api.Patch{Kind: api.PatchWord, At: 4 * i, Symbol: i, Add: i})
	}
	m.Patches = append(m.Patches, api.Patch{Kind: api.PatchCall, At: bytes - 3, Symbol: -1, Add: 1})
	return m
}

// at is a module in a sector.
func at(first int, m api.Module) api.Placed { return api.Placed{Module: m, First: first} }

// of is a registry of modules, with a kernel that has an f.
func of(l ...api.Placed) api.Registry {
	k := api.Kernel{Major: 1, Minor: 2, Exports: []api.Export{{Name: "f", At: 100}, {Name: "odd", At: 33}}}
	return api.Registry{Kernel: k, Modules: l}
}

// sample: nothing is wrong with it: sectors 0, 2, 3 and 8 to 14 are free. app asks lib and the kernel, lib asks the kernel.
func sample() api.Registry {
	return of(at(1, mod("app", 60, "lib", "kernel")), at(4, mod("lib", 100, "kernel")), at(6, mod("x", 64)), at(7, mod("y", 4)), at(15, mod("end", 64)))
}

// copied shares no list with what it is a copy of.
func copied(r api.Registry) api.Registry {
	r.Kernel.Exports = slices.Clone(r.Kernel.Exports)
	r.Modules = slices.Clone(r.Modules)
	for i, p := range r.Modules {
		m := &r.Modules[i].Module
		m.Exports, m.Imports, m.Patches = slices.Clone(p.Module.Exports), slices.Clone(p.Module.Imports), slices.Clone(p.Module.Patches)
	}
	return r
}

// moved is a registry whose modules lie in other sectors.
func moved(r api.Registry, firsts ...int) api.Registry {
	r = copied(r)
	for i, n := range firsts {
		r.Modules[i].First = n
	}
	return r
}

// told is a registry as a text: an empty list is told as none.
func told(r api.Registry) string { return fmt.Sprintf("%+v", r) }

func step(t *testing.T, what string, r, want api.Registry, moved bool, e api.Errno) {
	t.Helper()
	if got, ok, f := compact.Step(r); told(got) != told(want) || ok != moved || f != e {
		t.Errorf("%s: Step = %v, %v, %d; must be %v, %v, %d", what, got, ok, f, want, moved, e)
	}
}

func pack(t *testing.T, what string, r, want api.Registry, many int, e api.Errno) {
	t.Helper()
	if got, n, f := compact.Pack(r); told(got) != told(want) || n != many || f != e {
		t.Errorf("%s: Pack = %v, %d, %d; must be %v, %d, %d", what, got, n, f, want, many, e)
	}
}

// wrong holds Step and Pack to one error.
func wrong(t *testing.T, what string, r api.Registry, e api.Errno) {
	t.Helper()
	step(t, what, r, api.Registry{}, false, e)
	pack(t, what, r, api.Registry{}, 0, e)
}
