package compact_test

import (
	"fmt"
	"math/rand"
	"slices"
	"testing"

	"shipfitter/api"
	"shipfitter/compact"
	"shipfitter/link"
	"shipfitter/region"
	"shipfitter/registry"
)

// drawn is a registry that is right: each module asks some of those that lie ahead of it, or, turned round, some of those behind.
func drawn(r *rand.Rand) api.Registry {
	var l []api.Placed
	end := 0
	for i := range r.Intn(api.MaxModules + 1) {
		m := mod(fmt.Sprint(string(rune('a'+i)), "_"), 4*(1+r.Intn(64)/(1+r.Intn(4))))
		first := end + r.Intn(3)*r.Intn(2)
		if end = first + (len(m.Text)+63)/64; end > api.Sectors {
			break
		}
		l = append(l, at(first, m))
	}
	turned := r.Intn(2) == 0
	for i := range l {
		others := l[:i]
		if turned {
			others = l[i+1:]
		}
		ask(r, &l[i].Module, others)
	}
	return of(l...)
}

// ask for f of the kernel and of some modules, with patches of all kinds as long as there is room for them.
func ask(r *rand.Rand, m *api.Module, others []api.Placed) {
	names := []string{"kernel"}
	for _, p := range others {
		names = append(names, p.Module.Name)
	}
	kinds := r.Perm(5)
	m.Patches = nil
	for i, n := range r.Perm(len(names))[:r.Intn(min(len(names), 5)+1)] {
		m.Imports = append(m.Imports, api.Import{Module: names[n], Name: "f", Major: 1, Minor: 1})
		if 4*i+4 <= len(m.Text) {
			m.Patches = append(m.Patches, api.Patch{Kind: 1 + kinds[i], At: 4 * i, Symbol: i, Add: 2 * r.Intn(1000)})
		}
	}
}

// next is what a step must make of a registry, told sector by sector: the first taken one that is behind a free one.
func next(r api.Registry) (api.Registry, bool) {
	var taken [api.Sectors]bool
	for _, p := range r.Modules {
		for i := range len(p.Module.Text) {
			taken[p.First+i/64] = true
		}
	}
	free := slices.Index(taken[:], false)
	if free < 0 {
		return r, false
	}
	more := slices.Index(taken[free:], true)
	if more < 0 {
		return r, false
	}
	after := copied(r)
	for i, p := range r.Modules {
		if p.First == free+more {
			after.Modules[i].First = free
		}
	}
	return after, true
}

// right holds a registry to be right, and its bytes to be those of its modules where they lie.
func right(t *testing.T, r api.Registry) {
	t.Helper()
	if e := registry.Check(r); e != api.OK {
		t.Errorf("Check of %v = %d", r, e)
	}
	all, e := link.Area(r.Kernel, r.Modules)
	for _, p := range r.Modules {
		s, f := link.Image(r.Kernel, r.Modules, p.Module.Name)
		if e != api.OK || f != api.OK || all[64*p.First:64*p.First+len(s)] != s {
			t.Errorf("bytes of %q: %q, %d, %d", p.Module.Name, s, e, f)
		}
	}
}

func TestJ1AndJ2SomeRegistries(t *testing.T) {
	r := rand.New(rand.NewSource(10))
	met := map[int]int{}
	for i := range 3000 {
		was := drawn(r)
		if e := registry.Check(was); e != api.OK {
			t.Fatalf("Check of %v = %d", was, e)
		}
		steps, now := 0, was
		for {
			want, ok := next(now)
			step(t, fmt.Sprint(i), now, want, ok, api.OK)
			right(t, want)
			if !ok {
				break
			}
			steps, now = steps+1, want
		}
		pack(t, fmt.Sprint(i), was, now, steps, api.OK)
		met[steps]++
		after, _, _ := compact.Pack(was)
		oneRun(t, after)
	}
	for n := range 8 {
		if met[n] < 20 {
			t.Errorf("only %d of the registries need %d steps", met[n], n)
		}
	}
}

// oneRun holds a packed registry to one free run, behind all modules, if any sector is free.
func oneRun(t *testing.T, r api.Registry) {
	t.Helper()
	end := 0
	for _, p := range r.Modules {
		end += (len(p.Module.Text) + 63) / 64
	}
	var want []api.Run
	if end < api.Sectors {
		want = []api.Run{{First: end, Many: api.Sectors - end}}
	}
	if runs, e := region.Free(r.Modules); !slices.Equal(runs, want) || e != api.OK {
		t.Errorf("free are %v, %d; must be %v", runs, e, want)
	}
}

func TestJ2BehindEachStepAllIsRight(t *testing.T) {
	for r, ok := sample(), true; ok; {
		right(t, r)
		r, ok, _ = compact.Step(r)
		if !ok {
			oneRun(t, r)
		}
	}
}
