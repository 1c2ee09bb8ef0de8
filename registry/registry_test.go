package registry_test

import (
	"fmt"
	"math"
	"reflect"
	"strings"
	"testing"

	"shipfitter/api"
	"shipfitter/registry"
)

// fault is one change of the sample, and what is told of it.
type fault struct {
	what   string
	want   api.Errno
	change func(w *world)
}

// faults of a registry, in the order in which H1 names them.
func faults() []fault {
	return []fault{
		{"the kernel's version", api.ErrRange, func(w *world) { w.r.Kernel.Major = -1 }},
		{"the kernel's exports are many", api.ErrMany, func(w *world) { w.r.Kernel.Exports = append(w.r.Kernel.Exports, make([]api.Export, 7)...) }},
		{"the kernel's second export", api.ErrForm, func(w *world) { w.r.Kernel.Exports[1].Name = "F" }},
		{"many are placed", api.ErrMany, func(w *world) { w.r.Modules = append(w.r.Modules, make([]api.Placed, 6)...) }},
		{"the first one's name", api.ErrForm, func(w *world) { w.r.Modules[0].Module.Name = "kernel" }},
		{"the second one's place", api.ErrRange, func(w *world) { w.r.Modules[1].First = 15 }},
		{"the third one's patch", api.ErrKind, func(w *world) { w.r.Modules[2].Module.Patches[0].Kind = 0 }},
		{"the second one in the way", api.ErrState, func(w *world) { w.r.Modules[0].First = 4 }},
		{"two of one name", api.ErrTwice, func(w *world) { w.r.Modules[2].Module.Name = "lib" }},
		{"lib and app need each other", api.ErrState, func(w *world) {
			m := &w.r.Modules[1].Module
			m.Imports = append(m.Imports, api.Import{Module: "app", Name: "f", Major: 1})
		}},
		{"app's import", api.ErrNone, func(w *world) { w.r.Modules[0].Module.Imports[1].Name = "none" }},
		{"app's odd call", api.ErrState, func(w *world) { w.r.Modules[0].Module.Patches[1].Add++ }},
		{"lib's import", api.ErrNone, func(w *world) { w.r.Modules[1].Module.Imports[0].Name = "none" }},
		{"end's import", api.ErrNone, func(w *world) { w.r.Modules[2].Module.Imports = []api.Import{{Module: "none", Name: "f"}} }},
		{"end's odd call", api.ErrState, func(w *world) { w.r.Modules[2].Module.Patches[0].Add++ }},
	}
}

// eachFault tells of each fault by itself, and beside each one that is named behind it.
func eachFault(all []fault, tell func(what string, want api.Errno, w world)) {
	for i, first := range all {
		tell(first.what, first.want, changed(first.change))
		for _, later := range all[i+1:] {
			tell(first.what+", "+later.what, first.want, changed(first.change, later.change))
			tell(later.what+", "+first.what, first.want, changed(later.change, first.change))
		}
	}
}

func TestH1CheckTheErrorThatIsNamedFirst(t *testing.T) {
	check(t, "sample", sample().r, api.OK)
	eachFault(faults(), func(what string, want api.Errno, w world) {
		t.Helper()
		check(t, what, w.r, want)
	})
}

func TestH1FindTheErrorThatIsNamedFirst(t *testing.T) {
	none := fault{"no such name", api.ErrNone, func(w *world) { w.name = "none" }}
	eachFault(append(faults(), none), func(what string, want api.Errno, w world) {
		t.Helper()
		find(t, what, w, api.Placed{}, want)
	})
}

func TestH1Find(t *testing.T) {
	for i, name := range []string{"app", "lib", "end"} {
		w := sample()
		w.name = name
		find(t, "sample", w, sample().r.Modules[i], api.OK)
	}
	w := sample()
	for _, name := range []string{"none", "kernel", "", "li", "libb", "LIB", "f", "lib\x00", strings.Repeat("a", 1<<16)} {
		w.name = name
		find(t, "no such name", w, api.Placed{}, api.ErrNone)
		find(t, "nothing placed", world{api.Registry{}, name}, api.Placed{}, api.ErrNone)
	}
}

func TestH1FindLists(t *testing.T) {
	plain := api.Placed{Module: api.Module{Name: "a", Text: "abcd"}, First: 7}
	got, e := registry.Find(of(plain), "a")
	if len(got.Module.Exports)+len(got.Module.Imports)+len(got.Module.Patches) > 0 || got.Module.Text != "abcd" || got.First != 7 || e != api.OK {
		t.Errorf("Find = %v, %d", got, e)
	}
	full := one(3, 256, "a", "b", "c", "d", "e", "g", "h")
	for i := range 5 {
		full.Module.Exports = append(full.Module.Exports, api.Export{Name: fmt.Sprint("f", i), At: 255})
	}
	for i := range 12 {
		full.Module.Patches = append(full.Module.Patches, api.Patch{Kind: api.PatchLow, At: 20 * i, Symbol: i%7 - 1, Add: 65535})
	}
	r := of(full)
	for i, name := range []string{"b", "c", "d", "e", "g", "h"} {
		r.Modules = append(r.Modules, one(7+i, 64, name))
	}
	find(t, "as much as there may be", world{r, "a"}, full, api.OK)
	find(t, "the last one", world{r, "h"}, one(12, 64, "h"), api.OK)
}

func TestH1OneThatNeedsItself(t *testing.T) {
	wrong(t, "itself", of(one(0, 4, "a", "a")), api.ErrState)
	wrong(t, "through another one", of(one(0, 4, "a", "b"), one(1, 4, "b", "a")), api.ErrState)
	wrong(t, "through two others", of(one(0, 4, "a", "b"), one(1, 4, "b", "c"), one(2, 4, "c", "a"), one(3, 4, "d")), api.ErrState)
	wrong(t, "itself, and one asks for what is not there", of(one(0, 4, "b", "none"), one(1, 4, "a", "a")), api.ErrState)
	wrong(t, "itself, and two of one name", of(one(0, 4, "a", "a"), one(1, 4, "b"), one(2, 4, "b")), api.ErrTwice)
	wrong(t, "itself, and one in the way", of(one(1, 4, "a", "a"), one(1, 4, "b"), one(2, 4, "b")), api.ErrState)
	wrong(t, "itself, and one outside", of(one(0, 4, "a", "a"), one(16, 4, "b")), api.ErrRange)
	check(t, "one behind the other", of(one(0, 4, "a", "b", "c", "kernel"), one(1, 4, "b", "c"), one(2, 4, "c", "kernel")), api.OK)
	check(t, "one ahead of the other", of(one(0, 4, "c", "kernel"), one(1, 4, "b", "c"), one(2, 4, "a", "b", "c")), api.OK)
}

func TestH1WhatAreaSays(t *testing.T) {
	odd := one(0, 8, "odd")
	odd.Module.Patches = []api.Patch{{Kind: api.PatchCall, At: 1, Symbol: -1}}
	lost := one(1, 8, "lost", "none")
	wrong(t, "an odd call ahead of an import", of(odd, lost), api.ErrState)
	odd.First, lost.First = 1, 0
	wrong(t, "an import ahead of an odd call", of(lost, odd), api.ErrNone)
	for minor := range 3 {
		lib := one(9, 4, "lib")
		lib.Module.Minor = minor
		want := api.OK
		if minor < 1 {
			want = api.ErrState
		}
		check(t, fmt.Sprint("minor ", minor), of(one(0, 4, "a", "lib"), lib), want)
		lib.Module.Major = 2
		wrong(t, "another major", of(one(0, 4, "a", "lib"), lib), api.ErrState)
	}
	lib := one(9, 4, "lib")
	lib.Module.Exports[0].Name = "g"
	wrong(t, "no such export", of(one(0, 4, "a", "lib"), lib), api.ErrNone)
	wrong(t, "no such module", of(one(0, 4, "a", "none"), lib), api.ErrNone)
}

func TestH1HowManyThereMayBe(t *testing.T) {
	check(t, "none", of(), api.OK)
	check(t, "nothing at all", api.Registry{}, api.OK)
	check(t, "no lists", api.Registry{Kernel: api.Kernel{Exports: []api.Export{}}, Modules: []api.Placed{}}, api.OK)
	var l []api.Placed
	for n := range 12 {
		name := fmt.Sprint("m", n)
		l = append(l, one(n, 64, name))
		if n >= 8 {
			wrong(t, name, of(l...), api.ErrMany)
			continue
		}
		find(t, name, world{of(l...), name}, l[n], api.OK)
	}
}

func TestH1Places(t *testing.T) {
	for size := 1; size <= 4; size++ {
		for _, first := range []int{math.MinInt, -1, 0, 1, 16 - size, 17 - size, 16, math.MaxInt} {
			p := one(first, 64*size, "a")
			what := fmt.Sprint(size, " sectors from ", first, " on")
			if first < 0 || first > 16-size {
				wrong(t, what, of(p), api.ErrRange)
				continue
			}
			check(t, what, of(p), api.OK)
			find(t, what, world{of(p), "a"}, p, api.OK)
		}
		for first := range 13 {
			want := api.ErrState
			if first >= 4+size {
				want = api.OK
			}
			check(t, fmt.Sprint("behind ", size, " sectors, from ", first, " on"), of(one(4, 64*size, "a"), one(first, 256, "b")), want)
		}
	}
}

func TestH1Kernels(t *testing.T) {
	for _, n := range []int{math.MinInt, -1, 0, 255, 256, math.MaxInt} {
		want := api.OK
		if n < 0 || n > 255 {
			want = api.ErrRange
		}
		check(t, fmt.Sprint("major ", n), api.Registry{Kernel: api.Kernel{Major: n}}, want)
		check(t, fmt.Sprint("minor ", n), api.Registry{Kernel: api.Kernel{Minor: n}}, want)
	}
	for _, at := range []int{math.MinInt, -1, 0, 4095, 4096, math.MaxInt} {
		want := api.OK
		if at < 0 || at > 4095 {
			want = api.ErrRange
		}
		check(t, fmt.Sprint("export at ", at), api.Registry{Kernel: api.Kernel{Exports: []api.Export{{Name: "f", At: at}}}}, want)
	}
	var k api.Kernel
	for n := range 12 {
		want := api.OK
		if n > 8 {
			want = api.ErrMany
		}
		check(t, fmt.Sprint(n, " exports"), api.Registry{Kernel: k}, want)
		k.Exports = append(k.Exports, api.Export{Name: fmt.Sprint("f", n)})
	}
	wrong(t, "an export twice", api.Registry{Kernel: api.Kernel{Exports: []api.Export{{Name: "f"}, {Name: "f"}}}}, api.ErrTwice)
}

func TestP1NothingPanicsWhateverIsHandedIn(t *testing.T) {
	lists := [][]api.Placed{make([]api.Placed, 1), make([]api.Placed, 8), make([]api.Placed, 1<<16), {{First: math.MinInt}}, {one(0, 4, "a"), {}}}
	for _, k := range []api.Kernel{{}, {Major: -1}, {Exports: make([]api.Export, 1)}, {Exports: make([]api.Export, 1<<16)}} {
		for _, l := range lists {
			r := api.Registry{Kernel: k, Modules: l}
			e := registry.Check(r)
			if e == api.OK {
				t.Errorf("Check has nothing against %v", k)
			}
			wrong(t, "wrong", r, e)
		}
	}
}

func TestP2WhatIsHandedInIsOnlyRead(t *testing.T) {
	w := sample()
	w.r.Kernel.Exports = append(w.r.Kernel.Exports, api.Export{Name: "more"})
	w.r.Modules = append(w.r.Modules, one(9, 4, "more"))
	lib := &w.r.Modules[1].Module
	lib.Patches = append(lib.Patches, api.Patch{Kind: 9})
	was := copied(w.r)
	r := w.r
	r.Kernel.Exports, r.Modules = r.Kernel.Exports[:2], r.Modules[:3]
	lib.Patches = lib.Patches[:1]
	check(t, "a part of it", r, api.OK)
	got, _ := registry.Find(r, "lib")
	lib.Patches = lib.Patches[:2]
	if !reflect.DeepEqual(w.r, was) {
		t.Errorf("what was handed in is %v now; it was %v", w.r, was)
	}
	clear(got.Module.Exports[:cap(got.Module.Exports)])
	clear(got.Module.Imports[:cap(got.Module.Imports)])
	clear(got.Module.Patches[:cap(got.Module.Patches)])
	if !reflect.DeepEqual(w.r, was) {
		t.Errorf("an answer shares memory with what was handed in: %v; it was %v", w.r, was)
	}
}

func TestP2WhatIsHandedInIsNotKept(t *testing.T) {
	w := sample()
	first, _ := registry.Find(w.r, "lib")
	second, _ := registry.Find(w.r, "lib")
	m := w.r.Modules[1].Module
	clear(m.Exports)
	clear(m.Imports)
	clear(m.Patches)
	clear(w.r.Modules)
	if want := sample().r.Modules[1]; !reflect.DeepEqual(first, want) {
		t.Errorf("a later change is seen: %v; it was %v", first, want)
	}
	clear(first.Module.Exports)
	if want := sample().r.Modules[1]; !reflect.DeepEqual(second, want) {
		t.Errorf("two answers share memory: %v; must be %v", second, want)
	}
}

func TestP3AnswersAreTheSameEachTime(t *testing.T) {
	for range 20 {
		w := sample()
		check(t, "sample", w.r, api.OK)
		find(t, "sample", w, sample().r.Modules[1], api.OK)
		w.r.Modules[1].Module.Minor = 0
		wrong(t, "changed", w.r, api.ErrState)
	}
}
