package resolve_test

import (
	"slices"
	"strings"

	"shipfitter/api"
)

// world is all that a call of the package is asked with.
type world struct {
	k api.Kernel
	l []api.Placed
	i api.Import
	m api.Module
}

// sample: nothing is wrong with it. Module lib is placed twice, so that the first one must be taken.
func sample() world {
	return world{
		k: api.Kernel{Major: 1, Minor: 2, Exports: []api.Export{{Name: "f", At: 100}, {Name: "zero", At: 0}, {Name: "last", At: 4095}}},
		l: []api.Placed{
			{Module: api.Module{Name: "app", Major: 1, Minor: 0, Text: strings.Repeat("abcd", 4), Exports: []api.Export{{Name: "f", At: 3}}, Imports: []api.Import{{Module: "no", Name: "no"}}}, First: 1},
			{Module: api.Module{Name: "lib", Major: 1, Minor: 2, Text: "12345678", Exports: []api.Export{{Name: "g", At: 0}, {Name: "f", At: 4}, {Name: "h", At: 7}}}, First: 4},
			{Module: api.Module{Name: "lib", Major: 2, Minor: 9, Text: strings.Repeat("abcd", 64), Exports: []api.Export{{Name: "f", At: 0}, {Name: "more", At: 255}}}, First: 15},
			{Module: api.Module{Name: "far", Major: 0, Minor: 255, Text: strings.Repeat("abcd", 64), Exports: []api.Export{{Name: "f", At: 255}}}, First: 0},
		},
		i: api.Import{Module: "lib", Name: "f", Major: 1, Minor: 1},
		m: api.Module{
			Name: "top", Major: 3, Minor: 1, Text: "12345678",
			Imports: []api.Import{{Module: "lib", Name: "f", Major: 1, Minor: 1}, {Module: "kernel", Name: "last", Major: 1, Minor: 2}, {Module: "far", Name: "f", Minor: 255}},
			Patches: []api.Patch{{Kind: api.PatchWord, At: 0, Symbol: 2}},
		},
	}
}

// changed is the sample with changes.
func changed(changes ...func(w *world)) world {
	w := sample()
	for _, change := range changes {
		change(&w)
	}
	return w
}

// copied shares no list with what it is a copy of.
func copied(w world) world {
	w.k.Exports = slices.Clone(w.k.Exports)
	w.l = slices.Clone(w.l)
	for i, p := range w.l {
		w.l[i].Module = cloned(p.Module)
	}
	w.m = cloned(w.m)
	return w
}

func cloned(m api.Module) api.Module {
	m.Exports, m.Imports, m.Patches = slices.Clone(m.Exports), slices.Clone(m.Imports), slices.Clone(m.Patches)
	return m
}

// names of texts: whether each is a NAME.
func names() map[string]bool {
	return map[string]bool{
		"z": true, "a_9": true, "abcdefgh_9": true, "kernel": true, "kernel_": true,
		"": false, "A": false, "9a": false, "_a": false, "a-": false, "a b": false, "é": false, "abcdefgh_9a": false, "aB": false,
	}
}
