package region_test

import (
	"slices"
	"strings"
	"testing"

	"shipfitter/api"
	"shipfitter/region"
)

// mod is a module of so many bytes.
func mod(name string, bytes int) api.Module {
	m := api.Module{Name: name, Major: 1, Minor: 2, Text: strings.Repeat("x", bytes), Imports: []api.Import{{Module: "none", Name: "f"}}}
	if bytes >= 4 {
		m.Exports = []api.Export{{Name: "f", At: bytes - 1}}
		m.Patches = []api.Patch{{Kind: api.PatchWord, At: bytes - 4}}
	}
	return m
}

// at is a module of so many bytes in a sector.
func at(first, bytes int) api.Placed {
	return api.Placed{Module: mod("m", bytes), First: first}
}

// world is all that a call of the package is asked with.
type world struct {
	l    []api.Placed
	many int
}

// sample: nothing is wrong with it: sectors 1, 2, 4 to 6 and 14, 15 are free.
func sample() world {
	return world{
		l:    []api.Placed{at(0, 64), at(3, 4), at(7, 252), at(11, 132)},
		many: 3,
	}
}

// changed is the sample with changes.
func changed(changes ...func(w *world)) world {
	w := sample()
	for _, change := range changes {
		change(&w)
	}
	return w
}

// fault is one change of the sample, and what is told of it.
type fault struct {
	what   string
	want   api.Errno
	change func(w *world)
}

func free(t *testing.T, what string, l []api.Placed, e api.Errno, want ...api.Run) {
	t.Helper()
	if got, f := region.Free(l); !slices.Equal(got, want) || f != e {
		t.Errorf("%s: Free = %v, %d; must be %v, %d", what, got, f, want, e)
	}
}

func first(t *testing.T, what string, w world, want int, e api.Errno) {
	t.Helper()
	if got, f := region.First(w.l, w.many); got != want || f != e {
		t.Errorf("%s, %d: First = %d, %d; must be %d, %d", what, w.many, got, f, want, e)
	}
}

func run(first, many int) api.Run { return api.Run{First: first, Many: many} }
