package session_test

import (
	"slices"
	"testing"

	"shipfitter/api"
	"shipfitter/session"
)

// memory is all that a call may be handed, or may answer.
type memory struct {
	r      api.Registry
	f      api.Flash
	l      []api.Cmd
	errnos []api.Errno
}

// wipe all memory of it, the spare room too.
func (m memory) wipe() {
	for _, p := range m.r.Modules {
		wipeModule(p.Module)
	}
	for _, c := range m.l {
		wipeModule(c.Module)
	}
	clear(m.r.Kernel.Exports[:cap(m.r.Kernel.Exports)])
	clear(m.r.Modules[:cap(m.r.Modules)])
	clear(m.f.Blocks[:cap(m.f.Blocks)])
	clear(m.l[:cap(m.l)])
	clear(m.errnos[:cap(m.errnos)])
}

func wipeModule(m api.Module) {
	clear(m.Exports[:cap(m.Exports)])
	clear(m.Imports[:cap(m.Imports)])
	clear(m.Patches[:cap(m.Patches)])
}

// each is the same with something done to each list of it, in new memory.
func (m memory) each(exports func([]api.Export) []api.Export, imports func([]api.Import) []api.Import, patches func([]api.Patch) []api.Patch) memory {
	module := func(x api.Module) api.Module {
		x.Exports, x.Imports, x.Patches = exports(x.Exports), imports(x.Imports), patches(x.Patches)
		return x
	}
	m.r.Kernel.Exports = exports(m.r.Kernel.Exports)
	m.r.Modules = slices.Clone(m.r.Modules)
	for i, p := range m.r.Modules {
		m.r.Modules[i].Module = module(p.Module)
	}
	m.l = slices.Clone(m.l)
	for i, c := range m.l {
		m.l[i].Module = module(c.Module)
	}
	return m
}

// spare is a copy of a list, with spare room behind it, in which something stands.
func spare[T any](l []T, more T) []T { return append(slices.Clone(l), more)[:len(l)] }

// roomy is the same with spare room behind each list.
func (m memory) roomy() memory {
	m = m.each(
		func(l []api.Export) []api.Export { return spare(l, api.Export{Name: "more"}) },
		func(l []api.Import) []api.Import { return spare(l, api.Import{Module: "more"}) },
		func(l []api.Patch) []api.Patch { return spare(l, api.Patch{Kind: 9}) })
	m.r.Modules = spare(m.r.Modules, at(9, mod("more", 4)))
	m.f.Blocks = spare(m.f.Blocks, "more")
	m.l = spare(m.l, out("more"))
	return m
}

// whole tells all memory of it, the spare room too.
func (m memory) whole() string {
	m.r.Modules = m.r.Modules[:cap(m.r.Modules)]
	m.f.Blocks = m.f.Blocks[:cap(m.f.Blocks)]
	m.l = m.l[:cap(m.l)]
	return told(m.each(
		func(l []api.Export) []api.Export { return l[:cap(l)] },
		func(l []api.Import) []api.Import { return l[:cap(l)] },
		func(l []api.Patch) []api.Patch { return l[:cap(l)] }))
}

// start is what the calls below are handed.
func start(t *testing.T) memory {
	a, b := mod("a", 64, "kernel"), mod("b", 100, "a")
	l := []api.Cmd{put(a), put(b), put(b), out("none"), anew(mod("a", 132, "kernel")), {Kind: 1, Module: mod("c", 5)}, pack()}
	f := written(t, formatted(t, 12), records(t, put(mod("x", 4)), put(mod("y", 8, "x")), put(mod("z", 4)), out("z"))...)
	return memory{r: sample(), f: f, l: l}
}

// calls of the package that are handed lists, or answer some.
func calls() map[string]func(m memory) memory {
	return map[string]func(m memory) memory{
		"Encode": func(m memory) memory {
			var errnos []api.Errno
			for _, c := range m.l {
				s, e := session.Encode(c)
				errnos = append(errnos, e, api.Errno(len(s)))
			}
			return memory{errnos: errnos}
		},
		"Decode": func(m memory) memory {
			s, _ := session.Encode(m.l[1])
			c, _ := session.Decode(s)
			return memory{l: []api.Cmd{c}}
		},
		"Run": func(m memory) memory {
			r, errnos, _ := session.Run(m.r, m.l)
			return memory{r: r, errnos: errnos}
		},
		"Run of none": func(m memory) memory {
			r, errnos, _ := session.Run(m.r, nil)
			return memory{r: r, errnos: errnos}
		},
		"Run of some that have an Errno": func(m memory) memory {
			r, errnos, _ := session.Run(m.r, m.l[3:4])
			return memory{r: r, errnos: errnos}
		},
		"Reopen": func(m memory) memory {
			r, _ := session.Reopen(m.r.Kernel, m.f)
			return memory{r: r}
		},
		"Reopen of no records": func(m memory) memory {
			f := api.Flash{Blocks: m.f.Blocks[9:]}
			r, _ := session.Reopen(m.r.Kernel, f)
			return memory{r: r}
		},
		"Play": func(m memory) memory {
			f, errnos, _ := session.Play(m.r.Kernel, m.f, m.l)
			return memory{f: f, errnos: errnos}
		},
		"Play of none": func(m memory) memory {
			f, errnos, _ := session.Play(m.r.Kernel, m.f, nil)
			return memory{f: f, errnos: errnos}
		},
		"Play of some that have an Errno": func(m memory) memory {
			f, errnos, _ := session.Play(m.r.Kernel, m.f, m.l[3:4])
			return memory{f: f, errnos: errnos}
		},
		"Play without room": func(m memory) memory {
			f := api.Flash{Blocks: m.f.Blocks[9:]}
			f, errnos, e := session.Play(m.r.Kernel, f, []api.Cmd{{}, put(mod("p", 256)), put(mod("q", 256))})
			return memory{f: f, errnos: append(errnos, e)}
		},
	}
}

func TestP2WhatIsHandedInIsOnlyRead(t *testing.T) {
	for name, call := range calls() {
		m, want := start(t).roomy(), told(call(start(t)))
		was := m.whole()
		got := call(m)
		if told(got) != want {
			t.Errorf("%s: with spare room %+v; without %s", name, got, want)
		}
		got.wipe()
		if is := m.whole(); is != was {
			t.Errorf("%s: what was handed in is %s now; it was %s", name, is, was)
		}
	}
}

func TestP2WhatIsHandedInIsNotKept(t *testing.T) {
	for name, call := range calls() {
		m := start(t)
		first, second := call(m), call(m)
		want := told(first)
		m.wipe()
		if told(first) != want {
			t.Errorf("%s: a later change is seen: %+v; it was %s", name, first, want)
		}
		first.wipe()
		if told(second) != want {
			t.Errorf("%s: two answers share memory: %+v; must be %s", name, second, want)
		}
	}
}

// Where nothing is appended, the flash that comes out is new memory all the same.
func TestP2TheFlashIsNewMemory(t *testing.T) {
	full := filled(t, written(t, formatted(t, 4), records(t, put(mod("a", 64)))...), 1)
	for what, l := range map[string][]api.Cmd{"none": nil, "an Errno": {out("none")}, "no room": {pack()}, "an Errno, no room": {{}, pack()}} {
		was := slices.Clone(full.Blocks)
		got, _, e := session.Play(kernel(), full, l)
		if len(got.Blocks) != 4 {
			t.Fatalf("%s: Play = %q, %d", what, got.Blocks, e)
		}
		clear(got.Blocks[:cap(got.Blocks)])
		if !slices.Equal(full.Blocks, was) {
			t.Errorf("%s: what was handed in is %q now", what, full.Blocks)
		}
	}
}

func TestP2NoTwoListsShareMemory(t *testing.T) {
	m := mod("m", 64, "kernel")
	var l []api.Cmd
	for _, name := range []string{"a", "b", "c"} {
		m.Name = name
		l = append(l, put(m))
	}
	r := of()
	r.Kernel.Exports = append(m.Exports, r.Kernel.Exports[1:]...)
	got, _, e := session.Run(r, append(l, anew(m)))
	if len(got.Modules) != 3 {
		t.Fatalf("Run = %+v, %d", got, e)
	}
	k, later := told(got.Kernel), told(got.Modules[1:])
	wipeModule(got.Modules[0].Module)
	if told(got.Kernel) != k || told(got.Modules[1:]) != later {
		t.Errorf("two lists of one answer share memory: %+v", got)
	}
}

func TestP2EmptyListsNilOrNot(t *testing.T) {
	none := api.Module{Name: "a", Text: "wxyz", Exports: []api.Export{}, Imports: []api.Import{}, Patches: []api.Patch{}}
	r := api.Registry{Kernel: api.Kernel{Exports: []api.Export{}}, Modules: []api.Placed{}}
	want := api.Registry{Modules: []api.Placed{at(0, api.Module{Name: "a", Text: "wxyz"})}}
	runs(t, "empty lists", r, []api.Cmd{put(none)}, want, allOK(1), api.OK)
	f, _, _ := session.Play(r.Kernel, formatted(t, 3), []api.Cmd{put(none)})
	if got, e := session.Reopen(api.Kernel{}, f); told(got) != told(want) || e != api.OK {
		t.Errorf("Reopen = %+v, %d; must be %+v", got, e, want)
	}
}

func TestP3AnswersAreTheSameEachTime(t *testing.T) {
	for name, call := range calls() {
		want := told(call(start(t)))
		for range 10 {
			for _, other := range calls() {
				other(start(t))
			}
			if got := told(call(start(t))); got != want {
				t.Fatalf("%s: %s; it was %s", name, got, want)
			}
		}
	}
}
