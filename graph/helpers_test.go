package graph_test

import (
	"slices"
	"testing"

	"shipfitter/api"
	"shipfitter/graph"
)

// one placed module, which has imports from some others.
func one(name string, others ...string) api.Placed {
	m := api.Module{Name: name, Major: 1, Minor: 2, Text: "12345678", Exports: []api.Export{{Name: "f", At: 4}}}
	for _, o := range others {
		m.Imports = append(m.Imports, api.Import{Module: o, Name: "f", Major: 1, Minor: 1})
	}
	if len(others) > 0 {
		m.Patches = []api.Patch{{Kind: api.PatchWord, At: 0, Symbol: 0, Add: 1}}
	}
	return api.Placed{Module: m}
}

// world is all that a call of the package is asked with.
type world struct {
	l    []api.Placed
	name string
}

// sample: nothing is wrong with it: top needs mid and low, mid needs low, and nobody needs alone.
func sample() world {
	return world{
		l:    []api.Placed{one("top", "mid", "kernel", "low"), one("low"), one("alone", "kernel"), one("mid", "none", "low")},
		name: "mid",
	}
}

// fault is one change of the sample, and what is told of it.
type fault struct {
	what   string
	want   api.Errno
	change func(w *world)
}

// changed is the sample with changes.
func changed(changes ...func(w *world)) world {
	w := sample()
	for _, change := range changes {
		change(&w)
	}
	return w
}

// copied shares no list with what it is a copy of.
func copied(l []api.Placed) []api.Placed {
	l = slices.Clone(l)
	for i, p := range l {
		l[i].Module.Exports, l[i].Module.Imports, l[i].Module.Patches = slices.Clone(p.Module.Exports), slices.Clone(p.Module.Imports), slices.Clone(p.Module.Patches)
	}
	return l
}

func needs(t *testing.T, l []api.Placed, name string, e api.Errno, want ...string) {
	t.Helper()
	if got, f := graph.Needs(l, name); !slices.Equal(got, want) || f != e {
		t.Errorf("Needs(%v, %q) = %v, %d; must be %v, %d", l, name, got, f, want, e)
	}
}

func users(t *testing.T, l []api.Placed, name string, e api.Errno, want ...string) {
	t.Helper()
	if got, f := graph.Users(l, name); !slices.Equal(got, want) || f != e {
		t.Errorf("Users(%v, %q) = %v, %d; must be %v, %d", l, name, got, f, want, e)
	}
}

func order(t *testing.T, l []api.Placed, e api.Errno, want ...string) {
	t.Helper()
	if got, f := graph.Order(l); !slices.Equal(got, want) || f != e {
		t.Errorf("Order(%v) = %v, %d; must be %v, %d", l, got, f, want, e)
	}
}

func words(w ...string) []string { return w }
