package resolve_test

import (
	"fmt"
	"math"
	"reflect"
	"slices"
	"testing"

	"shipfitter/api"
	"shipfitter/resolve"
)

// placedFaults behind those of the kernel, in the order in which D1 names them; module by module each stands at a later one than the ones ahead.
func placedFaults() []fault {
	return []fault{
		{"many are placed", api.ErrMany, func(w *world) { w.l = append(w.l, make([]api.Placed, 9)...) }},
		{"a placed module's name", api.ErrForm, func(w *world) { w.l[0].Module.Name = "kernel" }},
		{"a placed module's place", api.ErrRange, func(w *world) { w.l[1].First = 16 }},
		{"a placed module's exports", api.ErrTwice, func(w *world) { w.l[2].Module.Exports[1].Name = "f" }},
		{"the last placed module's place", api.ErrRange, func(w *world) { w.l[3].First = -1 }},
	}
}

// importFaults behind those of what is placed; each by itself is behind the ones ahead.
func importFaults() []fault {
	return []fault{
		{"import's name", api.ErrForm, func(w *world) { w.i.Name = "" }},
		{"import's version", api.ErrRange, func(w *world) { w.i.Minor = 256 }},
		{"no such module", api.ErrNone, func(w *world) { w.i.Module = "none" }},
		{"another version", api.ErrState, func(w *world) { w.i.Major = 2 }},
		{"no such export", api.ErrNone, func(w *world) { w.i.Name = "more" }},
	}
}

func finds(t *testing.T, what string, want int, e api.Errno, changes ...func(w *world)) {
	t.Helper()
	w := changed(changes...)
	if n, f := resolve.Find(w.k, w.l, w.i); n != want || f != e {
		t.Errorf("%s: Find = %d, %d; must be %d, %d", what, n, f, want, e)
	}
}

func TestD1FindTheErrorThatIsNamedFirst(t *testing.T) {
	finds(t, "sample", 4356, api.OK)
	all := slices.Concat(kernelFaults(), placedFaults(), importFaults())
	for i, first := range all {
		finds(t, first.what, 0, first.want, first.change)
		for _, later := range all[i+1:] {
			if first.what == "import's name" && later.what == "no such export" {
				continue // both change the same name
			}
			finds(t, first.what+", "+later.what, 0, first.want, first.change, later.change)
			finds(t, later.what+", "+first.what, 0, first.want, later.change, first.change)
		}
	}
}

func TestD1FindTheFirstPlacedModuleTells(t *testing.T) {
	finds(t, "place ahead of a name", 0, api.ErrRange, func(w *world) { w.l[0].First, w.l[1].Module.Name = 16, "" })
	finds(t, "name ahead of a place", 0, api.ErrForm, func(w *world) { w.l[0].Module.Name, w.l[1].First = "", 16 })
	finds(t, "name and place", 0, api.ErrForm, func(w *world) { w.l[1].Module.Name, w.l[1].First = "", 16 })
	finds(t, "patches and place", 0, api.ErrKind, func(w *world) { w.l[1].Module.Patches, w.l[1].First = make([]api.Patch, 1), 16 })
	finds(t, "one that is not asked for", 0, api.ErrState, func(w *world) { w.l[3].Module.Patches = []api.Patch{{Kind: 1, Symbol: -1}, {Kind: 1, Symbol: -1}} })
}

func TestD1FindPlaces(t *testing.T) {
	for _, first := range []int{math.MinInt, -1, 0, 1, 14, 15, 16, math.MaxInt} {
		want, e := 4096+64*first+4, api.OK
		if first < 0 || first > 15 {
			want, e = 0, api.ErrRange
		}
		finds(t, fmt.Sprint("lib in sector ", first), want, e, func(w *world) { w.l[1].First = first })
	}
	for n := range 20 {
		want, e := 4356, api.OK
		if n > 6 {
			want, e = 0, api.ErrMany
		}
		finds(t, fmt.Sprint(n, " modules behind two"), want, e, func(w *world) {
			w.l = w.l[:2]
			for i := range n {
				w.l = append(w.l, api.Placed{Module: api.Module{Name: fmt.Sprint("m", i), Text: "abcd"}, First: 3})
			}
		})
	}
}

func asks(module, name string, major, minor int) func(w *world) {
	return func(w *world) { w.i = api.Import{Module: module, Name: name, Major: major, Minor: minor} }
}

func TestD1Find(t *testing.T) {
	finds(t, "lib's g", 4352, api.OK, asks("lib", "g", 1, 0))
	finds(t, "lib's h", 4359, api.OK, asks("lib", "h", 1, 2))
	finds(t, "app's f", 4163, api.OK, asks("app", "f", 1, 0))
	finds(t, "far's f", 4351, api.OK, asks("far", "f", 0, 255))
	finds(t, "kernel's f", 100, api.OK, asks("kernel", "f", 1, 1))
	finds(t, "kernel's least", 0, api.OK, asks("kernel", "zero", 1, 2))
	finds(t, "kernel's greatest", 4095, api.OK, asks("kernel", "last", 1, 0))
	finds(t, "kernel without exports", 0, api.ErrNone, asks("kernel", "f", 1, 0), func(w *world) { w.k.Exports = nil })
	finds(t, "kernel's none", 0, api.ErrNone, asks("kernel", "g", 1, 0))
	finds(t, "nothing placed", 0, api.ErrNone, func(w *world) { w.l = nil })
	finds(t, "nothing placed, the kernel asked", 100, api.OK, asks("kernel", "f", 1, 0), func(w *world) { w.l = nil })
	finds(t, "the greatest address", 5311, api.OK, asks("far", "f", 0, 0), func(w *world) { w.l[3].First = 15 })
	finds(t, "a module without exports", 0, api.ErrNone, func(w *world) { w.l[1].Module.Exports = nil })
}

func TestD1FindTheFirstOfThatName(t *testing.T) {
	finds(t, "of the version of the later one", 0, api.ErrState, asks("lib", "f", 2, 9))
	finds(t, "export of the later one", 0, api.ErrNone, asks("lib", "more", 1, 0))
	finds(t, "the later one ahead", 4096+15*64, api.OK, asks("lib", "f", 2, 9), func(w *world) { w.l[1], w.l[2] = w.l[2], w.l[1] })
}

func TestD1FindVersions(t *testing.T) {
	for major := range 256 {
		for minor := range 256 {
			lib, kernel, e := 0, 0, api.ErrState
			if major == 1 && minor <= 2 {
				lib, kernel, e = 4356, 100, api.OK
			}
			finds(t, fmt.Sprint("lib of version ", major, minor), lib, e, asks("lib", "f", major, minor))
			finds(t, fmt.Sprint("kernel of version ", major, minor), kernel, e, asks("kernel", "f", major, minor))
		}
	}
	for _, n := range []int{math.MinInt, -1, 256, 257, math.MaxInt} {
		finds(t, fmt.Sprint("major ", n), 0, api.ErrRange, asks("lib", "f", n, 0))
		finds(t, fmt.Sprint("minor ", n), 0, api.ErrRange, asks("lib", "f", 1, n))
		finds(t, fmt.Sprint("kernel's major ", n), 0, api.ErrRange, asks("kernel", "f", n, 0))
		finds(t, fmt.Sprint("minor of one that there is not ", n), 0, api.ErrRange, asks("none", "f", 1, n))
	}
}

func TestD1FindNames(t *testing.T) {
	for s, is := range names() {
		module, export := api.ErrForm, api.ErrForm
		if is {
			module, export = api.ErrNone, api.ErrNone
		}
		finds(t, fmt.Sprintf("export %q", s), 0, export, asks("lib", s, 1, 0))
		if s == api.KernelName {
			continue
		}
		finds(t, fmt.Sprintf("module %q", s), 0, module, asks(s, "f", 1, 0))
	}
	finds(t, "no names, no version", 0, api.ErrForm, asks("lib", "", -1, -1))
	finds(t, "no module's name, no version", 0, api.ErrForm, asks("", "f", -1, -1))
}

// moduleFaults of what All is asked of, behind those of what is placed and ahead of those of its imports.
func moduleFaults() []fault {
	return []fault{
		{"module's name", api.ErrForm, func(w *world) { w.m.Name = "kernel" }},
		{"module's version", api.ErrRange, func(w *world) { w.m.Major = 256 }},
		{"module's bytes are many", api.ErrMany, func(w *world) { w.m.Text = string(make([]byte, 260)) }},
		{"module's import twice", api.ErrTwice, func(w *world) { w.m.Imports = append(w.m.Imports, w.m.Imports[0]) }},
		{"module's patches", api.ErrKind, func(w *world) { w.m.Patches[0].Kind = 0 }},
	}
}

// laterFaults: of imports, one by one.
func laterFaults() []fault {
	return []fault{
		{"first import's version", api.ErrState, func(w *world) { w.m.Imports[0].Minor = 3 }},
		{"second import's name", api.ErrNone, func(w *world) { w.m.Imports[1].Name = "none" }},
		{"third import's version", api.ErrState, func(w *world) { w.m.Imports[2].Major = 1 }},
	}
}

func tellsAll(t *testing.T, what string, want []int, e api.Errno, changes ...func(w *world)) {
	t.Helper()
	w := changed(changes...)
	if l, f := resolve.All(w.k, w.l, w.m); !slices.Equal(l, want) || f != e {
		t.Errorf("%s: All = %v, %d; must be %v, %d", what, l, f, want, e)
	}
}

func TestD2TheErrorThatIsNamedFirst(t *testing.T) {
	tellsAll(t, "sample", []int{4356, 4095, 4351}, api.OK)
	all := slices.Concat(kernelFaults(), placedFaults(), moduleFaults(), laterFaults())
	for i, first := range all {
		tellsAll(t, first.what, nil, first.want, first.change)
		for _, later := range all[i+1:] {
			tellsAll(t, first.what+", "+later.what, nil, first.want, first.change, later.change)
			if first.what != "module's import twice" {
				tellsAll(t, later.what+", "+first.what, nil, first.want, later.change, first.change)
			}
		}
	}
}

func TestD2ImportByImport(t *testing.T) {
	set := func(l ...api.Import) func(w *world) {
		return func(w *world) { w.m.Imports, w.m.Patches = l, nil }
	}
	right := api.Import{Module: "lib", Name: "f", Major: 1}
	noModule := api.Import{Module: "none", Name: "f", Major: 1}
	noVersion := api.Import{Module: "lib", Name: "h", Major: 2}
	noExport := api.Import{Module: "lib", Name: "more", Major: 1}
	wrong := api.Import{Module: "lib", Name: "g", Major: 256}
	tellsAll(t, "no imports", nil, api.OK, set())
	tellsAll(t, "one", []int{4356}, api.OK, set(right))
	tellsAll(t, "no such module", nil, api.ErrNone, set(right, noModule, noVersion))
	tellsAll(t, "another version ahead", nil, api.ErrState, set(right, noVersion, noModule))
	tellsAll(t, "no such export", nil, api.ErrNone, set(right, noExport, noVersion))
	tellsAll(t, "another version ahead of no export", nil, api.ErrState, set(noVersion, noExport, right))
	tellsAll(t, "the last one", nil, api.ErrNone, set(right, noExport))
	tellsAll(t, "a wrong import behind one that is not found", nil, api.ErrRange, set(noModule, noVersion, wrong))
	tellsAll(t, "of itself, which is not placed", nil, api.ErrNone, set(api.Import{Module: "top", Name: "f"}))
	tellsAll(t, "six", []int{4352, 4356, 4359, 100, 0, 4163}, api.OK, set(
		api.Import{Module: "lib", Name: "g", Major: 1}, right, api.Import{Module: "lib", Name: "h", Major: 1},
		api.Import{Module: "kernel", Name: "f", Major: 1}, api.Import{Module: "kernel", Name: "zero", Major: 1}, api.Import{Module: "app", Name: "f", Major: 1}))
}

func TestD3WhatIsFoundIsWithinItsModuleOrBelowBase(t *testing.T) {
	w := sample()
	for first := range api.Sectors {
		for i, p := range w.l {
			w.l[i].First = first
			for _, x := range p.Module.Exports {
				n, e := resolve.Find(w.k, w.l[i:i+1], api.Import{Module: p.Module.Name, Name: x.Name, Major: p.Module.Major})
				begin := 4096 + 64*first
				if e != api.OK || n < begin || n >= begin+len(p.Module.Text) {
					t.Errorf("%s of %s in sector %d is at %d, %d", x.Name, p.Module.Name, first, n, e)
				}
			}
		}
	}
	for _, x := range w.k.Exports {
		if n, e := resolve.Find(w.k, w.l, api.Import{Module: "kernel", Name: x.Name, Major: 1}); e != api.OK || n != x.At || n < 0 || n >= 4096 {
			t.Errorf("%s of the kernel is at %d, %d", x.Name, n, e)
		}
	}
}

func TestP1NothingPanicsWhateverIsHandedIn(t *testing.T) {
	for _, k := range []api.Kernel{{}, {Major: -1}, {Exports: make([]api.Export, 1)}, {Exports: make([]api.Export, 1<<20)}} {
		for _, l := range [][]api.Placed{nil, {}, make([]api.Placed, 1), make([]api.Placed, 1<<16), {{First: math.MinInt}}, sample().l} {
			resolve.Kernel(k)
			if n, e := resolve.Find(k, l, api.Import{}); n != 0 || e == api.OK {
				t.Errorf("Find = %d, %d", n, e)
			}
			if a, e := resolve.All(k, l, api.Module{}); len(a) > 0 || e == api.OK {
				t.Errorf("All = %v, %d", a, e)
			}
		}
	}
}

// roomy is the sample, with spare room behind its lists in which something stands.
func roomy() world {
	w := sample()
	w.k.Exports = append(w.k.Exports, api.Export{Name: "more", At: 1})
	w.l = append(w.l, w.l[0])
	w.m.Imports = append(w.m.Imports, api.Import{Module: "lib", Name: "g"})
	return w
}

func TestP2WhatIsHandedInIsOnlyRead(t *testing.T) {
	w, was := roomy(), roomy()
	resolve.Kernel(api.Kernel{Major: 1, Exports: w.k.Exports[:3]})
	k := api.Kernel{Major: 1, Minor: 2, Exports: w.k.Exports[:3]}
	m := w.m
	m.Imports = m.Imports[:3]
	resolve.Find(k, w.l[:4], w.i)
	a, _ := resolve.All(k, w.l[:4], m)
	b, _ := resolve.All(k, w.l[:4], m)
	if !reflect.DeepEqual(w, was) {
		t.Errorf("what was handed in is %v now; it was %v", w, was)
	}
	clear(a)
	if want := []int{4356, 4095, 4351}; !slices.Equal(b, want) {
		t.Errorf("two answers share memory: %v; must be %v", b, want)
	}
}

func TestP3AnswersAreTheSameEachTime(t *testing.T) {
	w := sample()
	for range 20 {
		c := copied(w)
		n, e := resolve.Find(c.k, c.l, c.i)
		l, f := resolve.All(c.k, c.l, c.m)
		if n != 4356 || e != api.OK || !slices.Equal(l, []int{4356, 4095, 4351}) || f != api.OK {
			t.Errorf("Find = %d, %d; All = %v, %d", n, e, l, f)
		}
		c.l[1].Module.Exports[1].At, c.k.Exports[2].At = 5, 7
	}
}
