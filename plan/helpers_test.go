package plan_test

import (
	"fmt"
	"slices"
	"strings"
	"testing"

	"shipfitter/api"
	"shipfitter/plan"
)

// world is all that a call of the package is asked with.
type world struct {
	r    api.Registry
	m    api.Module
	name string
}

// mod is a module of so many bytes, all of them the first letter of its name, which asks for f of others; its last bytes call itself.
func mod(name string, bytes int, others ...string) api.Module {
	m := api.Module{Name: name, Major: 1, Minor: 2, Text: strings.Repeat(name[:1], bytes), Exports: []api.Export{{Name: "f", At: bytes - 2}}}
	for i, o := range others {
		m.Imports = append(m.Imports, api.Import{Module: o, Name: "f", Major: 1, Minor: 1})
		m.Patches = append(m.Patches, api.Patch{Kind: api.PatchWord, At: 4 * i, Symbol: i, Add: i})
	}
	m.Patches = append(m.Patches, api.Patch{Kind: api.PatchCall, At: bytes - 3, Symbol: -1, Add: 1})
	return m
}

// at is a module in a sector.
func at(first int, m api.Module) api.Placed { return api.Placed{Module: m, First: first} }

// of is a registry of modules, with a kernel that has an f.
func of(l ...api.Placed) api.Registry {
	k := api.Kernel{Major: 1, Minor: 2, Exports: []api.Export{{Name: "f", At: 100}, {Name: "odd", At: 33}}}
	return api.Registry{Kernel: k, Modules: l}
}

// sample: nothing is wrong with it: sectors 0, 2, 3 and 8 to 14 are free. app asks lib and the kernel, lib asks the kernel.
func sample() world {
	r := of(at(1, mod("app", 60, "lib", "kernel")), at(4, mod("lib", 100, "kernel")), at(6, mod("x", 64)), at(7, mod("y", 4)), at(15, mod("end", 64)))
	return world{r: r}
}

// installing: nothing is wrong with putting in a module of four sectors.
func installing() world {
	w := sample()
	w.m = mod("new", 256, "lib", "kernel")
	return w
}

// upgrading: nothing is wrong with putting in anew a module, now of four sectors: for them there is no room from where it was on.
func upgrading() world {
	w := sample()
	w.m = mod("lib", 256, "kernel")
	w.m.Minor = 3
	return w
}

// removing: nothing is wrong with taking out a module.
func removing() world {
	w := sample()
	w.name = "app"
	return w
}

// with is a registry with one more module, ahead of those that lie behind it.
func with(r api.Registry, p api.Placed) api.Registry {
	i := slices.IndexFunc(r.Modules, func(x api.Placed) bool { return x.First > p.First })
	if i < 0 {
		i = len(r.Modules)
	}
	r.Modules = slices.Insert(slices.Clone(r.Modules), i, p)
	return r
}

// without is a registry without the module whose bytes are a letter. (Names may be changed by a fault.)
func without(r api.Registry, letter string) api.Registry {
	r.Modules = slices.DeleteFunc(slices.Clone(r.Modules), func(x api.Placed) bool { return x.Module.Text[:1] == letter })
	return r
}

// of is the module whose bytes are a letter.
func (w *world) of(letter string) *api.Placed {
	return &w.r.Modules[slices.IndexFunc(w.r.Modules, func(x api.Placed) bool { return x.Module.Text[:1] == letter })]
}

// move the module whose bytes are a letter into a sector.
func (w *world) move(letter string, first int) {
	p := *w.of(letter)
	p.First = first
	w.r = with(without(w.r, letter), p)
}

// add small modules in some sectors.
func (w *world) add(sectors ...int) {
	for _, n := range sectors {
		w.r = with(w.r, at(n, mod(fmt.Sprint("n", n), 4)))
	}
}

// copied shares no list with what it is a copy of.
func copied(w world) world {
	w.r.Kernel.Exports = slices.Clone(w.r.Kernel.Exports)
	w.r.Modules = slices.Clone(w.r.Modules)
	for i, p := range w.r.Modules {
		w.r.Modules[i].Module = copiedModule(p.Module)
	}
	w.m = copiedModule(w.m)
	return w
}

func copiedModule(m api.Module) api.Module {
	m.Exports, m.Imports, m.Patches = slices.Clone(m.Exports), slices.Clone(m.Imports), slices.Clone(m.Patches)
	return m
}

// told is a registry as a text: an empty list is told as none.
func told(r api.Registry) string { return fmt.Sprintf("%+v", r) }

func install(t *testing.T, what string, w world, want api.Registry, e api.Errno) {
	t.Helper()
	if got, f := plan.Install(w.r, w.m); told(got) != told(want) || f != e {
		t.Errorf("%s: Install = %v, %d; must be %v, %d", what, got, f, want, e)
	}
}

func remove(t *testing.T, what string, w world, want api.Registry, e api.Errno) {
	t.Helper()
	if got, f := plan.Remove(w.r, w.name); told(got) != told(want) || f != e {
		t.Errorf("%s: Remove of %q = %v, %d; must be %v, %d", what, w.name, got, f, want, e)
	}
}

func upgrade(t *testing.T, what string, w world, want api.Registry, e api.Errno) {
	t.Helper()
	if got, f := plan.Upgrade(w.r, w.m); told(got) != told(want) || f != e {
		t.Errorf("%s: Upgrade = %v, %d; must be %v, %d", what, got, f, want, e)
	}
}

var none api.Registry
