package link_test

import (
	"slices"
	"strings"
	"testing"

	"shipfitter/api"
	"shipfitter/link"
)

// world is all that a call of the package is asked with.
type world struct {
	k    api.Kernel
	l    []api.Placed
	name string
}

// sample: nothing is wrong with it. app asks lib and the kernel, lib asks the kernel, end asks nobody.
func sample() world {
	return world{
		k: api.Kernel{Major: 1, Minor: 2, Exports: []api.Export{{Name: "f", At: 100}, {Name: "odd", At: 33}}},
		l: []api.Placed{
			{Module: api.Module{
				Name: "app", Major: 1, Text: strings.Repeat("abcd", 15),
				Imports: []api.Import{{Module: "lib", Name: "f", Major: 1, Minor: 1}, {Module: "kernel", Name: "odd", Major: 1, Minor: 2}},
				Patches: []api.Patch{
					{Kind: api.PatchWord, At: 0, Symbol: 0, Add: 1},
					{Kind: api.PatchHere, At: 5, Symbol: 1, Add: 2},
					{Kind: api.PatchHigh, At: 9, Symbol: 0, Add: 65535},
					{Kind: api.PatchLow, At: 12, Symbol: -1, Add: 7},
					{Kind: api.PatchCall, At: 57, Symbol: 1, Add: 0},
				},
			}, First: 1},
			{Module: api.Module{
				Name: "lib", Major: 1, Minor: 2, Text: strings.Repeat("efgh", 25),
				Exports: []api.Export{{Name: "g", At: 0}, {Name: "f", At: 4}},
				Imports: []api.Import{{Module: "kernel", Name: "f", Major: 1}},
				Patches: []api.Patch{{Kind: api.PatchCall, At: 96, Symbol: 0, Add: 0}},
			}, First: 4},
			{Module: api.Module{
				Name: "end", Text: strings.Repeat("ijkl", 16),
				Patches: []api.Patch{{Kind: api.PatchCall, At: 61, Symbol: -1, Add: 61}},
			}, First: 15},
		},
		name: "app",
	}
}

// changed is the sample with changes.
func changed(changes ...func(w *world)) world {
	w := sample()
	for _, change := range changes {
		change(&w)
	}
	return w
}

// copied shares no list with what it is a copy of.
func copied(w world) world {
	w.k.Exports = slices.Clone(w.k.Exports)
	w.l = slices.Clone(w.l)
	for i, p := range w.l {
		m := &w.l[i].Module
		m.Exports, m.Imports, m.Patches = slices.Clone(p.Module.Exports), slices.Clone(p.Module.Imports), slices.Clone(p.Module.Patches)
	}
	return w
}

// at is a module of so many bytes in a sector, which asks nobody.
func at(first, bytes int, name string) api.Placed {
	return api.Placed{Module: api.Module{Name: name, Major: 1, Text: strings.Repeat("wxyz", (bytes+3)/4)[:bytes], Exports: []api.Export{{Name: "f", At: 0}}}, First: first}
}

// patched is a module of so many bytes in a sector with patches, which asks for f of others.
func patched(p api.Placed, others []string, patches ...api.Patch) api.Placed {
	for _, o := range others {
		p.Module.Imports = append(p.Module.Imports, api.Import{Module: o, Name: "f", Major: 1})
	}
	p.Module.Patches = patches
	return p
}

func blank(bytes int) string { return strings.Repeat("\xff", bytes) }

func image(t *testing.T, what string, w world, want string, e api.Errno) {
	t.Helper()
	if got, f := link.Image(w.k, w.l, w.name); got != want || f != e {
		t.Errorf("%s: Image of %q = %q, %d; must be %q, %d", what, w.name, got, f, want, e)
	}
}

func area(t *testing.T, what string, w world, want string, e api.Errno) {
	t.Helper()
	got, f := link.Area(w.k, w.l)
	if len(got) != len(want) || f != e {
		t.Errorf("%s: Area = %d bytes, %d; must be %d, %d", what, len(got), f, len(want), e)
		return
	}
	for i := 0; i < len(want); i += 64 {
		if got[i:i+64] != want[i:i+64] {
			t.Errorf("%s: sector %d of Area = %q; must be %q", what, i/64, got[i:i+64], want[i:i+64])
		}
	}
}

// both hold Image and Area to one error.
func both(t *testing.T, what string, w world, e api.Errno) {
	t.Helper()
	image(t, what, w, "", e)
	area(t, what, w, "", e)
}
