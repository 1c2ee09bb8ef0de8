package plan_test

import (
	"fmt"
	"math/rand"
	"slices"
	"testing"

	"shipfitter/api"
	"shipfitter/link"
	"shipfitter/plan"
	"shipfitter/registry"
)

// taken tells of each sector whether a module lies in it.
func taken(l []api.Placed) (p [api.Sectors]bool) {
	for _, x := range l {
		for i := range len(x.Module.Text) {
			p[x.First+i/64] = true
		}
	}
	return p
}

// fits tells whether a module of so many bytes may lie from a sector on, beside others.
func fits(l []api.Placed, first, bytes int) bool {
	p, end := taken(l), first+(bytes+63)/64
	return end <= api.Sectors && !slices.Contains(p[first:end], true)
}

// model tells what must become of a registry, of which Check has nothing to say, by a module of a name, with which nothing is wrong by itself.
type model struct {
	r     api.Registry
	named func(p api.Placed) bool
}

func modelOf(r api.Registry, name string) model {
	return model{r, func(p api.Placed) bool { return p.Module.Name == name }}
}

// checked is what comes, if Check has nothing against it.
func checked(r api.Registry) (api.Registry, api.Errno) {
	if e := registry.Check(r); e != api.OK {
		return none, e
	}
	return r, api.OK
}

// placed is what comes of putting in a module: in the first of some sectors in which it fits.
func (o model) placed(m api.Module, sectors ...int) (api.Registry, api.Errno) {
	for first := range api.Sectors {
		sectors = append(sectors, first)
	}
	for _, first := range sectors {
		if fits(o.r.Modules, first, len(m.Text)) {
			return checked(with(o.r, at(first, m)))
		}
	}
	return none, api.ErrSpace
}

func (o model) install(m api.Module) (api.Registry, api.Errno) {
	if slices.ContainsFunc(o.r.Modules, o.named) {
		return none, api.ErrTwice
	}
	if len(o.r.Modules) == 8 {
		return none, api.ErrMany
	}
	return o.placed(m)
}

func (o model) upgrade(m api.Module) (api.Registry, api.Errno) {
	i := slices.IndexFunc(o.r.Modules, o.named)
	if i < 0 {
		return none, api.ErrNone
	}
	old := o.r.Modules[i].First
	o.r.Modules = slices.DeleteFunc(slices.Clone(o.r.Modules), o.named)
	return o.placed(m, old)
}

func (o model) remove(name string) (api.Registry, api.Errno) {
	if !slices.ContainsFunc(o.r.Modules, o.named) {
		return none, api.ErrNone
	}
	for _, p := range o.r.Modules {
		for _, i := range p.Module.Imports {
			if i.Module == name {
				return none, api.ErrState
			}
		}
	}
	o.r.Modules = slices.DeleteFunc(slices.Clone(o.r.Modules), o.named)
	return o.r, api.OK
}

// drawnModule of one of ten names: most of what it asks for is there; few of its calls are odd.
func drawnModule(r *rand.Rand, all api.Registry) api.Module {
	m := mod(fmt.Sprint("m", r.Intn(10)), 4+4*r.Intn(64))
	if r.Intn(3) > 0 {
		m = mod(m.Name, 64)
	}
	names := []string{"kernel"}
	for _, p := range all.Modules {
		if p.Module.Name != m.Name || r.Intn(20) == 0 {
			names = append(names, p.Module.Name)
		}
	}
	if r.Intn(20) == 0 {
		names = append(names, "none")
	}
	for _, i := range r.Perm(len(names))[:r.Intn(min(len(names), 2)+1)] {
		ask(&m, names[i])
	}
	m.Minor = r.Intn(30)
	if r.Intn(40) == 0 {
		m.Patches[0].Add++
	}
	return m
}

// stays holds all modules but that of a name to lying where they lay, and what comes to bytes that can be told.
func stays(t *testing.T, was, is api.Registry, name string) {
	t.Helper()
	others := func(r api.Registry) api.Registry {
		r.Modules = slices.DeleteFunc(slices.Clone(r.Modules), func(p api.Placed) bool { return p.Module.Name == name })
		return r
	}
	if told(others(was)) != told(others(is)) {
		t.Errorf("other modules than %q are other: %v; they were %v", name, is, was)
	}
	if s, e := link.Area(is.Kernel, is.Modules); len(s) != 1024 || e != api.OK {
		t.Errorf("Area of %v = %d bytes, %d", is, len(s), e)
	}
}

func TestI1AndI2SomeDeeds(t *testing.T) {
	r := rand.New(rand.NewSource(9))
	type kind struct {
		call int
		e    api.Errno
	}
	met := map[kind]int{}
	for range 400 {
		all := of()
		for range 60 {
			m := drawnModule(r, all)
			o := modelOf(all, m.Name)
			call := min(r.Intn(7)/2, 2)
			var got, want api.Registry
			var e, f api.Errno
			switch call {
			case 0:
				want, e = o.install(m)
				got, f = plan.Install(all, m)
			case 1:
				want, e = o.remove(m.Name)
				got, f = plan.Remove(all, m.Name)
			case 2:
				want, e = o.upgrade(m)
				got, f = plan.Upgrade(all, m)
			}
			met[kind{call, e}]++
			if told(got) != told(want) || f != e {
				t.Fatalf("call %d of %v, %v = %v, %d; must be %v, %d", call, all, m, got, f, want, e)
			}
			if e == api.OK {
				stays(t, all, got, m.Name)
				all = got
			}
		}
	}
	for call, l := range [][]api.Errno{
		{api.OK, api.ErrTwice, api.ErrMany, api.ErrSpace, api.ErrState, api.ErrNone},
		{api.OK, api.ErrState, api.ErrNone},
		{api.OK, api.ErrNone, api.ErrSpace, api.ErrState},
	} {
		for _, e := range l {
			if met[kind{call, e}] < 20 {
				t.Errorf("call %d tells %d only %d times", call, e, met[kind{call, e}])
			}
		}
	}
}

func TestI2WhatComesIsRight(t *testing.T) {
	for name, call := range calls() {
		w, do := call()
		after := do(w)
		if e := registry.Check(after); e != api.OK || len(after.Modules) == 0 {
			t.Errorf("%s: Check of %v = %d", name, after, e)
		}
		stays(t, w.r, after, w.name+w.m.Name)
	}
}

func TestI2WhatIsPutInIsThere(t *testing.T) {
	w := installing()
	after, _ := plan.Install(w.r, w.m)
	if p, e := registry.Find(after, "new"); e != api.OK || told(of(p)) != told(of(at(8, w.m))) {
		t.Errorf("Find = %v, %d", p, e)
	}
	back, e := plan.Remove(after, "new")
	if told(back) != told(w.r) || e != api.OK {
		t.Errorf("Remove behind Install = %v, %d; must be %v", back, e, w.r)
	}
	if _, e := registry.Find(back, "new"); e != api.ErrNone {
		t.Errorf("Find behind Remove: %d", e)
	}
}
