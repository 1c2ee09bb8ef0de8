package plan_test

import (
	"testing"

	"shipfitter/api"
)

// fault is one change of a sample, and what is told of it.
type fault struct {
	what   string
	want   api.Errno
	change func(w *world)
}

// registryFaults are what Check has against a registry, in its order.
func registryFaults() []fault {
	return []fault{
		{"the kernel's version", api.ErrRange, func(w *world) { w.r.Kernel.Major = -1 }},
		{"the kernel's exports", api.ErrForm, func(w *world) { w.r.Kernel.Exports[0].Name = "F" }},
		{"many are placed", api.ErrMany, func(w *world) {
			w.r.Modules = append(w.r.Modules, at(15, mod("a", 4)), at(15, mod("b", 4)), at(15, mod("c", 4)), at(15, mod("d", 4)))
		}},
		{"app's place", api.ErrRange, func(w *world) { w.of("a").First = -1 }},
		{"x's bytes", api.ErrForm, func(w *world) { w.of("x").Module.Text = "xxx" }},
		{"end's patch", api.ErrKind, func(w *world) { w.of("e").Module.Patches[0].Kind = 0 }},
		{"end in the way", api.ErrState, func(w *world) { w.of("e").First = 6 }},
		{"two of one name", api.ErrTwice, func(w *world) { w.of("e").Module.Name = "lib" }},
		{"lib and app need each other", api.ErrState, func(w *world) { ask(&w.of("l").Module, "app") }},
		{"app's import", api.ErrNone, func(w *world) { w.of("a").Module.Imports[1].Name = "none" }},
		{"end's odd call", api.ErrState, func(w *world) { w.of("e").Module.Patches[0].Add++ }},
	}
}

// moduleFaults are what is wrong with a module by itself, in the order of chapter 2.
func moduleFaults() []fault {
	return []fault{
		{"the module's version", api.ErrRange, func(w *world) { w.m.Minor = 256 }},
		{"the module's exports are many", api.ErrMany, func(w *world) { w.m.Exports = append(w.m.Exports, make([]api.Export, 6)...) }},
		{"the module's imports", api.ErrTwice, func(w *world) { w.m.Imports = append(w.m.Imports, w.m.Imports[0]) }},
		{"the module's patch", api.ErrKind, func(w *world) { w.m.Patches[0].Kind = 6 }},
	}
}

// ask for f of another module.
func ask(m *api.Module, other string) {
	m.Imports = append(m.Imports, api.Import{Module: other, Name: "f", Major: 1, Minor: 1})
}

// ownFaults are what Check has against a module by what it asks for and patches.
func ownFaults() []fault {
	return []fault{
		{"the module's import", api.ErrNone, func(w *world) { ask(&w.m, "none") }},
		{"the module's odd call", api.ErrState, func(w *world) { w.m.Patches[len(w.m.Patches)-1].Add++ }},
	}
}

// eachFault tells of each fault of a sample by itself, and beside each one that is named behind it.
func eachFault(sample func() world, tell func(what string, w world, want api.Errno), lists ...[]fault) {
	var all []fault
	for _, l := range lists {
		all = append(all, l...)
	}
	changed := func(changes ...fault) world {
		w := copied(sample())
		for _, f := range changes {
			f.change(&w)
		}
		return w
	}
	for i, first := range all {
		tell(first.what, changed(first), first.want)
		for _, later := range all[i+1:] {
			tell(first.what+", "+later.what, changed(first, later), first.want)
			tell(later.what+", "+first.what, changed(later, first), first.want)
		}
	}
}

func TestI1InstallTheErrorThatIsNamedFirst(t *testing.T) {
	w := installing()
	install(t, "sample", w, with(w.r, at(8, w.m)), api.OK)
	eachFault(installing, func(what string, w world, want api.Errno) {
		t.Helper()
		install(t, what, w, none, want)
	}, registryFaults(), moduleFaults(), []fault{
		{"one of its name", api.ErrTwice, func(w *world) { w.m.Name = "lib" }},
		{"no place is left", api.ErrMany, func(w *world) { w.add(0, 2, 3) }},
		{"no room", api.ErrSpace, func(w *world) { w.move("l", 5); w.move("x", 10); w.move("y", 13) }},
		{"the module needs itself", api.ErrState, func(w *world) { ask(&w.m, "new") }},
	}, ownFaults())
}

func TestI1RemoveTheErrorThatIsNamedFirst(t *testing.T) {
	w := removing()
	remove(t, "sample", w, without(w.r, "a"), api.OK)
	// A name that none has is needed by none: the two errors never meet.
	for _, last := range []fault{
		{"none of the name", api.ErrNone, func(w *world) { w.name = "none" }},
		{"one needs it", api.ErrState, func(w *world) { w.name = "lib" }},
	} {
		eachFault(removing, func(what string, w world, want api.Errno) {
			t.Helper()
			remove(t, what, w, none, want)
		}, registryFaults(), []fault{last})
	}
}

func TestI1UpgradeTheErrorThatIsNamedFirst(t *testing.T) {
	w := upgrading()
	upgrade(t, "sample", w, with(without(w.r, "l"), at(2, w.m)), api.OK)
	eachFault(upgrading, func(what string, w world, want api.Errno) {
		t.Helper()
		upgrade(t, what, w, none, want)
	}, registryFaults(), moduleFaults(), []fault{
		{"none of its name", api.ErrNone, func(w *world) { w.m.Name = "none" }},
		{"no room", api.ErrSpace, func(w *world) { w.move("x", 3); w.add(11) }},
		{"the module and app need each other", api.ErrState, func(w *world) { ask(&w.m, "app") }},
		{"app asks for another version", api.ErrState, func(w *world) { w.m.Major = 2 }},
		{"app asks for what is not there", api.ErrNone, func(w *world) { w.m.Exports[0].Name = "g" }},
	}, ownFaults())
}

// wrongModules are faults that the lists above can't stand beside others.
func wrongModules() []fault {
	return []fault{
		{"no module", api.ErrForm, func(w *world) { w.m = api.Module{} }},
		{"no name", api.ErrForm, func(w *world) { w.m.Name = "" }},
		{"the kernel's name", api.ErrForm, func(w *world) { w.m.Name = "kernel" }},
		{"a long name", api.ErrForm, func(w *world) { w.m.Name = "abcdefghijk" }},
		{"no bytes", api.ErrForm, func(w *world) { w.m.Text = "" }},
		{"a byte less", api.ErrForm, func(w *world) { w.m.Text = w.m.Text[1:] }},
		{"four bytes more", api.ErrMany, func(w *world) { w.m.Text += "wxyz" }},
		{"an export outside", api.ErrRange, func(w *world) { w.m.Exports[0].At = 256 }},
		{"a patch outside", api.ErrRange, func(w *world) { w.m.Patches[len(w.m.Patches)-1].At = 254 }},
		{"a patch ahead of the one ahead", api.ErrState, func(w *world) { w.m.Patches[len(w.m.Patches)-1].At = 0 }},
	}
}

func TestI1WrongModules(t *testing.T) {
	for _, f := range wrongModules() {
		w := installing()
		f.change(&w)
		install(t, f.what, w, none, f.want)
		w = upgrading()
		f.change(&w)
		upgrade(t, f.what, w, none, f.want)
	}
}

func TestI1WrongModulesAheadOfWhatIsThere(t *testing.T) {
	var full []api.Placed
	for i, name := range []string{"a", "b", "c", "d", "e", "g", "h", "lib"} {
		full = append(full, at(2*i, mod(name, 128)))
	}
	for _, f := range wrongModules() {
		w := world{r: of(full...), m: mod("lib", 256, "kernel")}
		f.change(&w)
		install(t, f.what+", no place, no room", w, none, f.want)
		upgrade(t, f.what+", no room", w, none, f.want)
		w.r = of()
		upgrade(t, f.what+", none of its name", w, none, f.want)
	}
}
