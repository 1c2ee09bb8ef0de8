package registry_test

import (
	"fmt"
	"math/rand"
	"testing"

	"shipfitter/api"
	"shipfitter/link"
	"shipfitter/registry"
	"shipfitter/resolve"
)

// drawn is a registry in which nothing is wrong with where the modules lie, nor with each by itself; so many in a hundred of the modules ask only those ahead.
func drawn(r *rand.Rand, ahead int) api.Registry {
	all := of()
	for i := range 1 + r.Intn(api.MaxModules) {
		p := one(2*i, 4+4*r.Intn(32), fmt.Sprint("m", i))
		p.Module.Minor = 1 + r.Intn(2)
		others := r.Perm(api.MaxModules)
		if r.Intn(100) < ahead {
			others = r.Perm(i)
		}
		for _, o := range others[:r.Intn(min(len(others), 3)+1)] {
			p.Module.Imports = append(p.Module.Imports, api.Import{Module: fmt.Sprint("m", o), Name: "f", Major: 1, Minor: 1 + r.Intn(20)/19})
		}
		for n := range r.Intn(len(p.Module.Text)/4+1) % 5 {
			p.Module.Patches = append(p.Module.Patches, api.Patch{Kind: 1 + r.Intn(5), At: 4 * n, Symbol: r.Intn(len(p.Module.Imports)+1) - 1, Add: r.Intn(20) / 19})
		}
		all.Modules = append(all.Modules, p)
	}
	return all
}

// round tells whether a module comes back to itself by what modules ask for, by trying ever longer ways.
func round(r api.Registry) bool {
	var way [api.MaxModules][api.MaxModules]bool
	for i, p := range r.Modules {
		for j, q := range r.Modules {
			for _, x := range p.Module.Imports {
				way[i][j] = way[i][j] || x.Module == q.Module.Name
			}
		}
	}
	for through := range way {
		for i := range way {
			for j := range way {
				way[i][j] = way[i][j] || way[i][through] && way[through][j]
			}
		}
	}
	for i := range way {
		if way[i][i] {
			return true
		}
	}
	return false
}

func TestH1SomeRegistries(t *testing.T) {
	r := rand.New(rand.NewSource(8))
	type kind struct {
		round bool
		e     api.Errno
	}
	told := map[kind]int{}
	for i := range 6000 {
		all := drawn(r, 60+r.Intn(41))
		_, e := link.Area(all.Kernel, all.Modules)
		told[kind{round(all), e}]++
		want := e
		if round(all) {
			want = api.ErrState
		}
		check(t, fmt.Sprint(i), all, want)
		for _, p := range all.Modules {
			w := world{all, p.Module.Name}
			if want != api.OK {
				p = api.Placed{}
			}
			find(t, fmt.Sprint(i), w, p, want)
		}
	}
	for _, k := range []kind{{false, api.OK}, {false, api.ErrNone}, {false, api.ErrState}, {true, api.OK}, {true, api.ErrNone}} {
		if told[k] < 20 {
			t.Errorf("%v is told of only %d of the registries", k, told[k])
		}
	}
}

func TestH2OfARegistryThatIsRightAllCanBeTold(t *testing.T) {
	r := rand.New(rand.NewSource(2))
	right := 0
	for range 3000 {
		all := drawn(r, 95)
		if registry.Check(all) != api.OK {
			continue
		}
		right++
		if s, e := link.Area(all.Kernel, all.Modules); len(s) != 1024 || e != api.OK {
			t.Errorf("Area = %d bytes, %d", len(s), e)
		}
		for _, p := range all.Modules {
			if s, e := link.Image(all.Kernel, all.Modules, p.Module.Name); len(s) < len(p.Module.Text) || e != api.OK {
				t.Errorf("Image of %q = %d bytes, %d", p.Module.Name, len(s), e)
			}
			for _, i := range p.Module.Imports {
				there, e := registry.Find(all, i.Module)
				n, f := resolve.Find(all.Kernel, all.Modules, i)
				if e != api.OK || f != api.OK || there.Module.Major != i.Major || there.Module.Minor < i.Minor || n != 4096+64*there.First {
					t.Errorf("%v of %q: %v, %d; %d, %d", i, p.Module.Name, there, e, n, f)
				}
			}
		}
	}
	if right < 300 {
		t.Errorf("only %d of the registries are right", right)
	}
}
