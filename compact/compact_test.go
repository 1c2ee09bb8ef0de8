package compact_test

import (
	"fmt"
	"math"
	"reflect"
	"strings"
	"testing"

	"shipfitter/api"
	"shipfitter/compact"
	"shipfitter/link"
)

// fault is one change of the sample, and what is told of it.
type fault struct {
	what   string
	want   api.Errno
	change func(r *api.Registry)
}

// faults are what Check has against a registry, in its order.
func faults() []fault {
	return []fault{
		{"the kernel's version", api.ErrRange, func(r *api.Registry) { r.Kernel.Minor = 256 }},
		{"the kernel's exports are many", api.ErrMany, func(r *api.Registry) { r.Kernel.Exports = append(r.Kernel.Exports, make([]api.Export, 7)...) }},
		{"the kernel's second export", api.ErrForm, func(r *api.Registry) { r.Kernel.Exports[1].Name = "F" }},
		{"many are placed", api.ErrMany, func(r *api.Registry) { r.Modules = append(r.Modules, make([]api.Placed, 4)...) }},
		{"app's place", api.ErrRange, func(r *api.Registry) { r.Modules[0].First = -1 }},
		{"lib's bytes", api.ErrForm, func(r *api.Registry) { r.Modules[1].Module.Text = "abc" }},
		{"end's patch", api.ErrKind, func(r *api.Registry) { r.Modules[4].Module.Patches[0].Kind = 0 }},
		{"y in the way", api.ErrState, func(r *api.Registry) { r.Modules[3].First = 6 }},
		{"two of one name", api.ErrTwice, func(r *api.Registry) { r.Modules[4].Module.Name = "lib" }},
		{"lib and app need each other", api.ErrState, func(r *api.Registry) {
			m := &r.Modules[1].Module
			m.Imports = append(m.Imports, api.Import{Module: "app", Name: "f", Major: 1})
		}},
		{"app's import", api.ErrNone, func(r *api.Registry) { r.Modules[0].Module.Imports[1].Name = "none" }},
		{"end's odd call", api.ErrState, func(r *api.Registry) { r.Modules[4].Module.Patches[0].Add++ }},
	}
}

func TestJ1TheErrorThatIsNamedFirst(t *testing.T) {
	all := faults()
	changed := func(changes ...fault) api.Registry {
		r := sample()
		for _, f := range changes {
			f.change(&r)
		}
		return r
	}
	for i, first := range all {
		wrong(t, first.what, changed(first), first.want)
		for _, later := range all[i+1:] {
			wrong(t, first.what+", "+later.what, changed(first, later), first.want)
			wrong(t, later.what+", "+first.what, changed(later, first), first.want)
		}
	}
}

func TestJ1ErrorsWhereNothingIsToBeMoved(t *testing.T) {
	for _, f := range faults() {
		r := moved(sample(), 0, 1, 3, 4, 5)
		f.change(&r)
		if f.what == "y in the way" {
			r.Modules[3].First = 3
		}
		wrong(t, f.what, r, f.want)
	}
}

func TestJ1StepByStep(t *testing.T) {
	r := sample()
	for _, firsts := range [][]int{{0, 4, 6, 7, 15}, {0, 1, 6, 7, 15}, {0, 1, 3, 7, 15}, {0, 1, 3, 4, 15}, {0, 1, 3, 4, 5}} {
		want := moved(r, firsts...)
		step(t, fmt.Sprint(firsts), r, want, true, api.OK)
		r = want
	}
	step(t, "packed", r, r, false, api.OK)
	pack(t, "sample", sample(), r, 5, api.OK)
	pack(t, "packed", r, r, 0, api.OK)
}

func TestJ1NothingToBeMoved(t *testing.T) {
	for what, r := range map[string]api.Registry{
		"nothing at all": {},
		"no modules":     of(),
		"no lists":       {Kernel: api.Kernel{Exports: []api.Export{}}, Modules: []api.Placed{}},
		"one":            of(at(0, mod("a", 256))),
		"two":            of(at(0, mod("a", 4)), at(1, mod("b", 64))),
		"all is taken":   of(at(0, mod("a", 256)), at(4, mod("b", 196)), at(8, mod("c", 256)), at(12, mod("d", 252))),
		"eight":          of(at(0, mod("a", 128)), at(2, mod("b", 128)), at(4, mod("c", 128)), at(6, mod("d", 128)), at(8, mod("e", 128)), at(10, mod("g", 128)), at(12, mod("h", 128)), at(14, mod("i", 128))),
	} {
		step(t, what, r, r, false, api.OK)
		pack(t, what, r, r, 0, api.OK)
	}
}

func TestJ1OneModule(t *testing.T) {
	for n := 4; n <= 256; n += 4 {
		r := of(at(0, mod("a", n)))
		for first := 1; first+(n+63)/64 <= 16; first++ {
			step(t, fmt.Sprint(n, " bytes in sector ", first), moved(r, first), r, true, api.OK)
			pack(t, fmt.Sprint(n, " bytes in sector ", first), moved(r, first), r, 1, api.OK)
		}
		for _, first := range []int{math.MinInt, -1, 17 - (n+63)/64, 16, math.MaxInt} {
			wrong(t, fmt.Sprint(n, " bytes in sector ", first), moved(r, first), api.ErrRange)
		}
	}
}

func TestJ1WhereTheOneAheadEnds(t *testing.T) {
	for n := 4; n <= 256; n += 4 {
		end := (n + 63) / 64
		r := of(at(0, mod("a", n)), at(end, mod("b", 4)))
		for first := end + 1; first < 16; first++ {
			what := fmt.Sprint(n, " bytes, then one in sector ", first)
			step(t, what, moved(r, 0, first), r, true, api.OK)
			pack(t, what, moved(r, 0, first), r, 1, api.OK)
		}
		step(t, "both", moved(r, 1, 15), moved(r, 0, 15), true, api.OK)
		pack(t, "both", moved(r, 1, 15), r, 2, api.OK)
		step(t, "both, side by side", moved(r, 1, 1+end), moved(r, 0, 1+end), true, api.OK)
		pack(t, "both, side by side", moved(r, 1, 1+end), r, 2, api.OK)
	}
}

func TestJ1EightModules(t *testing.T) {
	var l []api.Placed
	for i := range 8 {
		l = append(l, at(i, mod(fmt.Sprint("m", i), 64)))
	}
	r := of(l...)
	pack(t, "each behind a free one", moved(r, 1, 3, 5, 7, 9, 11, 13, 15), r, 8, api.OK)
	pack(t, "each ahead of a free one", moved(r, 0, 2, 4, 6, 8, 10, 12, 14), r, 7, api.OK)
	pack(t, "all at the end", moved(r, 8, 9, 10, 11, 12, 13, 14, 15), r, 8, api.OK)
	pack(t, "the last one", moved(r, 0, 1, 2, 3, 4, 5, 6, 15), r, 1, api.OK)
	step(t, "the last one", moved(r, 0, 1, 2, 3, 4, 5, 6, 8), r, true, api.OK)
	wrong(t, "nine", of(append(l, at(8, mod("m8", 64)))...), api.ErrMany)
}

func TestJ1TheExample(t *testing.T) {
	lib := api.Module{Name: "lib", Major: 1, Minor: 2, Text: "12345678", Exports: []api.Export{{Name: "f", At: 4}}}
	app := api.Module{Name: "app", Major: 1, Text: "........", Imports: []api.Import{{Module: "lib", Name: "f", Major: 1, Minor: 1}}, Patches: []api.Patch{{Kind: api.PatchWord, At: 0, Symbol: 0, Add: 1}}}
	k := api.Kernel{Major: 1}
	r := api.Registry{Kernel: k, Modules: []api.Placed{at(1, app), at(4, lib)}}
	pack(t, "the example", r, moved(r, 0, 1), 2, api.OK)
	after, _, _ := compact.Pack(r)
	if s, e := link.Image(k, after.Modules, "app"); !strings.HasPrefix(s, "\x45\x10\x00\x00....\xff") || e != api.OK {
		t.Errorf("app's bytes are %q, %d", s, e)
	}
}

func TestP1NothingPanicsWhateverIsHandedIn(t *testing.T) {
	lists := [][]api.Placed{make([]api.Placed, 1), make([]api.Placed, 8), {{First: math.MinInt}}, {at(0, mod("a", 4)), {}}}
	for _, l := range lists {
		wrong(t, "wrong modules", api.Registry{Modules: l}, api.ErrForm)
		wrong(t, "and a wrong kernel", api.Registry{Kernel: api.Kernel{Major: math.MinInt}, Modules: l}, api.ErrRange)
		wrong(t, "and a kernel of many exports", api.Registry{Kernel: api.Kernel{Exports: make([]api.Export, 1<<16)}, Modules: l}, api.ErrMany)
	}
	wrong(t, "many modules", api.Registry{Modules: make([]api.Placed, 1<<16)}, api.ErrMany)
}

// calls are both calls of the package.
func calls() map[string]func(r api.Registry) api.Registry {
	return map[string]func(r api.Registry) api.Registry{
		"Step": func(r api.Registry) api.Registry { after, _, _ := compact.Step(r); return after },
		"Pack": func(r api.Registry) api.Registry { after, _, _ := compact.Pack(r); return after },
	}
}

// wipe all memory that a registry has, the spare room too.
func wipe(r api.Registry) {
	for _, p := range r.Modules {
		clear(p.Module.Exports[:cap(p.Module.Exports)])
		clear(p.Module.Imports[:cap(p.Module.Imports)])
		clear(p.Module.Patches[:cap(p.Module.Patches)])
	}
	clear(r.Kernel.Exports[:cap(r.Kernel.Exports)])
	clear(r.Modules[:cap(r.Modules)])
}

func TestP2WhatIsHandedInIsOnlyRead(t *testing.T) {
	for name, do := range calls() {
		// Packed, there is nothing to be moved, and the answer is new memory all the same.
		for _, r := range []api.Registry{sample(), moved(sample(), 0, 1, 3, 4, 5)} {
			r.Kernel.Exports = append(r.Kernel.Exports, api.Export{Name: "more"})
			r.Modules = append(r.Modules, at(9, mod("more", 4)))
			lib := &r.Modules[1].Module
			lib.Patches = append(lib.Patches, api.Patch{Kind: 9})
			was, part := copied(r), r
			part.Kernel.Exports, part.Modules = r.Kernel.Exports[:2], r.Modules[:5]
			lib.Patches = lib.Patches[:2]
			got := do(part)
			if len(got.Modules) != 5 {
				t.Errorf("%s: %v", name, got)
			}
			wipe(got)
			lib.Patches = lib.Patches[:3]
			if !reflect.DeepEqual(r, was) {
				t.Errorf("%s: what was handed in is %v now; it was %v", name, r, was)
			}
		}
	}
}

func TestP2WhatIsHandedInIsNotKept(t *testing.T) {
	for name, do := range calls() {
		for _, r := range []api.Registry{sample(), moved(sample(), 0, 1, 3, 4, 5)} {
			first, second := do(r), do(r)
			want := told(first)
			wipe(r)
			if told(first) != want {
				t.Errorf("%s: a later change is seen: %v; it was %s", name, first, want)
			}
			wipe(first)
			if told(second) != want {
				t.Errorf("%s: two answers share memory: %v; must be %s", name, second, want)
			}
		}
	}
}

func TestP2NoTwoListsShareMemory(t *testing.T) {
	m := mod("m", 64, "kernel")
	other := m
	other.Name = "other"
	r := of(at(0, m), at(2, other))
	r.Kernel.Exports = m.Exports
	for name, do := range calls() {
		got := do(r)
		want := told(of(got.Modules[1])) + fmt.Sprint(got.Kernel)
		x := got.Modules[0].Module
		clear(x.Exports)
		clear(x.Imports)
		clear(x.Patches)
		if told(of(got.Modules[1]))+fmt.Sprint(got.Kernel) != want {
			t.Errorf("%s: two lists of one answer share memory: %v", name, got)
		}
	}
}

func TestP3AnswersAreTheSameEachTime(t *testing.T) {
	for range 20 {
		r := sample()
		step(t, "sample", r, moved(r, 0), true, api.OK)
		pack(t, "sample", r, moved(r, 0, 1, 3, 4, 5), 5, api.OK)
		r.Modules[2].First = 5
		wrong(t, "changed", r, api.ErrState)
	}
}
