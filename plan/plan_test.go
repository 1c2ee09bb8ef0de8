package plan_test

import (
	"fmt"
	"math"
	"reflect"
	"strings"
	"testing"

	"shipfitter/api"
	"shipfitter/plan"
)

// full are modules of so many sectors each, one behind the other from sector 0 on.
func full(sizes ...int) []api.Placed {
	var l []api.Placed
	end := 0
	for i, n := range sizes {
		l = append(l, at(end, mod(fmt.Sprint(string(rune('a'+i)), i), 64*n)))
		end += n
	}
	return l
}

func TestI1InstallHowManyBytes(t *testing.T) {
	for n := 4; n <= 256; n += 4 {
		m := mod("a", n)
		install(t, fmt.Sprint(n, " bytes"), world{r: of(), m: m}, of(at(0, m)), api.OK)
	}
}

func TestI1InstallTheFirstRoom(t *testing.T) {
	r := of(at(1, mod("b", 64)), at(4, mod("c", 4)), at(8, mod("d", 256)))
	for size, first := range map[int]int{1: 0, 2: 2, 3: 5, 4: 12} {
		for _, n := range []int{64*size - 60, 64 * size} {
			m := mod("m", n)
			install(t, fmt.Sprint(n, " bytes"), world{r: r, m: m}, with(r, at(first, m)), api.OK)
		}
	}
}

func TestI1InstallNoRoom(t *testing.T) {
	for size := 1; size <= 4; size++ {
		m := mod("m", 64*size-60)
		for room := range 5 {
			l := full(4, 4, 4)
			if room < 4 {
				l = append(l, at(12+room, mod("z", 64*(4-room))))
			}
			what := fmt.Sprint(size, " sectors, ", room, " are free")
			if room < size {
				install(t, what, world{r: of(l...), m: m}, none, api.ErrSpace)
				continue
			}
			install(t, what, world{r: of(l...), m: m}, with(of(l...), at(12, m)), api.OK)
		}
	}
	// As many as are asked for are free, but not side by side.
	apart := of(at(1, mod("b", 192)), at(5, mod("c", 192)), at(9, mod("d", 192)), at(13, mod("e", 128)))
	install(t, "apart", world{r: apart, m: mod("m", 68)}, none, api.ErrSpace)
	install(t, "one sector", world{r: apart, m: mod("m", 64)}, with(apart, at(0, mod("m", 64))), api.OK)
}

func TestI1InstallHowManyThereMayBe(t *testing.T) {
	r := of()
	for n := range 8 {
		m := mod(fmt.Sprint("m", n), 64)
		want := with(r, at(n, m))
		install(t, m.Name, world{r: r, m: m}, want, api.OK)
		r = want
	}
	install(t, "a ninth one", world{r: r, m: mod("m8", 64)}, none, api.ErrMany)
	install(t, "a ninth one, no room", world{r: of(full(2, 2, 2, 2, 2, 2, 2, 2)...), m: mod("m8", 64)}, none, api.ErrMany)
	install(t, "a ninth one, of a name that is there", world{r: r, m: mod("m7", 64)}, none, api.ErrTwice)
	install(t, "a ninth one, that is wrong", world{r: r, m: mod("M8", 64)}, none, api.ErrForm)
	r = with(r, at(8, mod("m8", 64)))
	install(t, "nine are there", world{r: r, m: mod("m9", 64)}, none, api.ErrMany)
}

func TestI1InstallNames(t *testing.T) {
	r := of(at(0, mod("abc", 64)), at(9, mod("b", 4)))
	for _, name := range []string{"ab", "abcd", "abc_", "a", "abcdefghij", "kernels"} {
		install(t, name, world{r: r, m: mod(name, 4)}, with(r, at(1, mod(name, 4))), api.OK)
	}
	for _, name := range []string{"abc", "b"} {
		install(t, name, world{r: r, m: mod(name, 4)}, none, api.ErrTwice)
	}
}

func TestI1InstallWhatIsAskedFor(t *testing.T) {
	lib := mod("lib", 64)
	for _, minor := range []int{0, 1, 2, 255} {
		lib.Minor = minor
		r := of(at(3, lib))
		w := world{r: r, m: mod("app", 64, "lib")}
		if minor < 1 {
			install(t, "an earlier one", w, none, api.ErrState)
			continue
		}
		install(t, "a later one", w, with(r, at(0, w.m)), api.OK)
		w.m.Imports[0].Minor = minor
		install(t, "the very one", w, with(r, at(0, w.m)), api.OK)
		w.m.Imports[0].Minor = min(minor+1, 255)
		w.m.Imports[0].Major += minor / 255
		install(t, "one beyond", w, none, api.ErrState)
	}
	install(t, "no such module", world{r: of(), m: mod("app", 64, "lib")}, none, api.ErrNone)
	install(t, "itself", world{r: of(), m: mod("app", 64, "app")}, none, api.ErrState)
	install(t, "itself, and no such module ahead", world{r: of(), m: mod("app", 64, "lib", "app")}, none, api.ErrState)
	odd := mod("odd", 64)
	odd.Patches[0].Add = 0
	install(t, "an odd call", world{r: of(), m: odd}, none, api.ErrState)
}

func TestI1Remove(t *testing.T) {
	r := of(full(1, 2, 3, 4, 1, 1, 1, 1)...)
	for i, p := range r.Modules {
		remove(t, "one of eight", world{r: r, name: p.Module.Name}, without(r, string(rune('a'+i))), api.OK)
		remove(t, "the only one", world{r: of(p), name: p.Module.Name}, of(), api.OK)
	}
	for _, name := range []string{"none", "kernel", "", "a", "a00", "A0", "f", "a0\x00", strings.Repeat("a", 1<<16)} {
		remove(t, "no such name", world{r: r, name: name}, none, api.ErrNone)
		remove(t, "nothing placed", world{r: of(), name: name}, none, api.ErrNone)
		remove(t, "nothing at all", world{name: name}, none, api.ErrNone)
	}
}

func TestI1RemoveOneThatIsNeeded(t *testing.T) {
	r := of(at(0, mod("a", 64, "b")), at(3, mod("b", 64, "c", "kernel")), at(5, mod("c", 64)), at(9, mod("d", 64)))
	for name, want := range map[string]api.Errno{"a": api.OK, "b": api.ErrState, "c": api.ErrState, "d": api.OK} {
		after := none
		if want == api.OK {
			after = without(r, name)
		}
		remove(t, "a, b, c, d", world{r: r, name: name}, after, want)
	}
	r = without(r, "a")
	remove(t, "a is gone", world{r: r, name: "c"}, none, api.ErrState)
	remove(t, "a is gone", world{r: r, name: "b"}, without(r, "b"), api.OK)
	r = without(r, "b")
	remove(t, "b is gone", world{r: r, name: "c"}, without(r, "c"), api.OK)
}

func TestI1UpgradeWhereItWas(t *testing.T) {
	// From sector 5 on one to four sectors are free without the old one, and two ahead of them.
	for old := 1; old <= 4; old++ {
		for room := old; room <= 4; room++ {
			for size := 1; size <= 4; size++ {
				r := of(at(1, mod("a", 128)), at(5, mod("m", 64*old)), at(5+room, mod("b", 64)))
				m := mod("m", 64*size)
				m.Minor = 7
				first := 5
				switch {
				case size > room && size <= room+2:
					first = 3
				case size > room:
					first = 6 + room
				}
				upgrade(t, fmt.Sprint(old, " sectors of ", room, ", then ", size), world{r: r, m: m}, with(without(r, "m"), at(first, m)), api.OK)
			}
		}
	}
}

func TestI1UpgradeStaysThoughThereIsRoomAhead(t *testing.T) {
	r := of(at(9, mod("m", 64)))
	for n := 4; n <= 256; n += 4 {
		upgrade(t, fmt.Sprint(n, " bytes"), world{r: r, m: mod("m", n)}, of(at(9, mod("m", n))), api.OK)
	}
}

func TestI1UpgradeAtTheEnd(t *testing.T) {
	for size := 1; size <= 4; size++ {
		for first := 8; first < 16; first++ {
			r := of(at(3, mod("a", 64)), at(first, mod("m", 4)))
			m := mod("m", 64*size)
			where := first
			switch {
			case first+size > 16 && size == 4:
				where = 4
			case first+size > 16:
				where = 0
			}
			upgrade(t, fmt.Sprint(size, " sectors from ", first, " on"), world{r: r, m: m}, with(without(r, "m"), at(where, m)), api.OK)
		}
	}
}

func TestI1UpgradeNoRoom(t *testing.T) {
	// The old one has two sectors, all others are taken.
	r := of(append(full(4, 4, 4), at(12, mod("m", 128)), at(14, mod("z", 128)))...)
	for n := 4; n <= 256; n += 4 {
		m := mod("m", n)
		if n > 128 {
			upgrade(t, fmt.Sprint(n, " bytes"), world{r: r, m: m}, none, api.ErrSpace)
			continue
		}
		upgrade(t, fmt.Sprint(n, " bytes"), world{r: r, m: m}, with(without(r, "m"), at(12, m)), api.OK)
	}
	upgrade(t, "none of its name, no room", world{r: r, m: mod("n", 256)}, none, api.ErrNone)
	// Of eight modules one may be put in anew.
	r = of(full(2, 2, 2, 2, 2, 2, 2, 2)...)
	for i, p := range r.Modules {
		m := mod(p.Module.Name, 128)
		m.Minor = 9
		upgrade(t, m.Name, world{r: r, m: m}, with(without(r, string(rune('a'+i))), at(2*i, m)), api.OK)
		upgrade(t, m.Name, world{r: r, m: mod(m.Name, 132)}, none, api.ErrSpace)
	}
}

func TestI1UpgradeWhoAsksForIt(t *testing.T) {
	r := of(at(0, mod("app", 64, "lib")), at(1, mod("lib", 64)), at(2, mod("top", 64, "app")))
	for _, v := range []struct {
		major, minor int
		want         api.Errno
	}{{1, 0, api.ErrState}, {1, 1, api.OK}, {1, 255, api.OK}, {0, 2, api.ErrState}, {2, 2, api.ErrState}, {0, 255, api.ErrState}} {
		m := mod("lib", 64)
		m.Major, m.Minor = v.major, v.minor
		after := none
		if v.want == api.OK {
			after = with(without(r, "l"), at(1, m))
		}
		upgrade(t, fmt.Sprint("version ", v.major, ".", v.minor), world{r: r, m: m}, after, v.want)
	}
	m := mod("lib", 64)
	m.Exports[0].Name = "g"
	upgrade(t, "no f", world{r: r, m: m}, none, api.ErrNone)
	for _, other := range []string{"app", "lib", "top"} {
		upgrade(t, "needs itself", world{r: r, m: mod("lib", 64, other)}, none, api.ErrState)
	}
	upgrade(t, "asks for what is not there", world{r: r, m: mod("lib", 64, "none")}, none, api.ErrNone)
	top := mod("top", 64, "lib")
	upgrade(t, "asks for another one", world{r: r, m: top}, with(without(r, "t"), at(2, top)), api.OK)
}

func TestI1NumbersThatAreRight(t *testing.T) {
	for _, n := range []int{math.MinInt, -1, 0, 255, 256, math.MaxInt} {
		m := mod("m", 64)
		m.Major, m.Minor = n, n
		after, want := of(at(0, m)), api.OK
		if n < 0 || n > 255 {
			after, want = none, api.ErrRange
		}
		install(t, fmt.Sprint("version ", n), world{r: of(), m: m}, after, want)
		upgrade(t, fmt.Sprint("version ", n), world{r: of(at(0, mod("m", 4))), m: m}, after, want)
	}
	for _, n := range []int{math.MinInt, -1, 0, 15, 16, math.MaxInt} {
		r := of(at(n, mod("m", 64)))
		w := world{r: r, m: mod("m", 64), name: "m"}
		if n < 0 || n > 15 {
			install(t, fmt.Sprint("sector ", n), w, none, api.ErrRange)
			remove(t, fmt.Sprint("sector ", n), w, none, api.ErrRange)
			upgrade(t, fmt.Sprint("sector ", n), w, none, api.ErrRange)
			continue
		}
		install(t, fmt.Sprint("sector ", n), w, none, api.ErrTwice)
		remove(t, fmt.Sprint("sector ", n), w, of(), api.OK)
		upgrade(t, fmt.Sprint("sector ", n), w, r, api.OK)
	}
}

func TestP1NothingPanicsWhateverIsHandedIn(t *testing.T) {
	lists := [][]api.Placed{make([]api.Placed, 1), make([]api.Placed, 8), make([]api.Placed, 1<<16), {{First: math.MinInt}}, {at(0, mod("a", 4)), {}}}
	for _, k := range []api.Kernel{{}, {Major: -1}, {Exports: make([]api.Export, 1<<16)}} {
		for _, l := range lists {
			for _, m := range []api.Module{{}, mod("a", 4), {Name: strings.Repeat("a", 1<<16)}, {Name: "a", Text: "abcd", Patches: make([]api.Patch, 1<<16)}} {
				r := api.Registry{Kernel: k, Modules: l}
				a, e := plan.Install(r, m)
				b, f := plan.Remove(r, m.Name)
				c, g := plan.Upgrade(r, m)
				if e == api.OK || f != e || g != e || !reflect.DeepEqual([]api.Registry{a, b, c}, make([]api.Registry, 3)) {
					t.Errorf("%v, %d; %v, %d; %v, %d", a, e, b, f, c, g)
				}
			}
		}
	}
	install(t, "nothing at all", world{}, none, api.ErrForm)
	upgrade(t, "nothing at all", world{}, none, api.ErrForm)
}

// calls are all calls of the package, each with a world of which it has nothing to say.
func calls() map[string]func() (world, func(w world) api.Registry) {
	return map[string]func() (world, func(w world) api.Registry){
		"Install": func() (world, func(w world) api.Registry) {
			return installing(), func(w world) api.Registry { r, _ := plan.Install(w.r, w.m); return r }
		},
		"Remove": func() (world, func(w world) api.Registry) {
			return removing(), func(w world) api.Registry { r, _ := plan.Remove(w.r, w.name); return r }
		},
		"Upgrade": func() (world, func(w world) api.Registry) {
			return upgrading(), func(w world) api.Registry { r, _ := plan.Upgrade(w.r, w.m); return r }
		},
	}
}

// wipe all memory that a registry and a module have, the spare room too.
func wipe(r api.Registry, m ...api.Module) {
	for _, p := range r.Modules {
		m = append(m, p.Module)
	}
	for _, x := range m {
		clear(x.Exports[:cap(x.Exports)])
		clear(x.Imports[:cap(x.Imports)])
		clear(x.Patches[:cap(x.Patches)])
	}
	clear(r.Kernel.Exports[:cap(r.Kernel.Exports)])
	clear(r.Modules[:cap(r.Modules)])
}

// roomy is a world with spare room behind all its lists, in which something stands; whole has the lists with that room.
func roomy(w world) (part, whole world) {
	whole = copied(w)
	whole.r.Kernel.Exports = append(whole.r.Kernel.Exports, api.Export{Name: "more"})
	whole.r.Modules = append(whole.r.Modules, at(9, mod("more", 4)), at(8, mod("most", 4)))
	part = whole
	part.r.Modules = append([]api.Placed{}, whole.r.Modules...)
	roomyModule(&whole.m, &part.m)
	for i := range w.r.Modules {
		roomyModule(&whole.r.Modules[i].Module, &part.r.Modules[i].Module)
	}
	part.r.Kernel.Exports = part.r.Kernel.Exports[:len(w.r.Kernel.Exports)]
	part.r.Modules = part.r.Modules[:len(w.r.Modules)]
	return part, whole
}

func roomyModule(whole, part *api.Module) {
	x, i, p := len(whole.Exports), len(whole.Imports), len(whole.Patches)
	whole.Exports = append(whole.Exports, api.Export{Name: "more"})
	whole.Imports = append(whole.Imports, api.Import{Module: "more"})
	whole.Patches = append(whole.Patches, api.Patch{Kind: 9})
	*part = *whole
	part.Exports, part.Imports, part.Patches = whole.Exports[:x], whole.Imports[:i], whole.Patches[:p]
}

func TestP2WhatIsHandedInIsOnlyRead(t *testing.T) {
	for name, call := range calls() {
		w, do := call()
		part, whole := roomy(w)
		was, list := copied(whole), append([]api.Placed{}, part.r.Modules[:len(whole.r.Modules)]...)
		got := do(part)
		if told(got) != told(do(w)) {
			t.Errorf("%s: with spare room %v; without %v", name, got, do(w))
		}
		wipe(got)
		if !reflect.DeepEqual(whole, was) || !reflect.DeepEqual(part.r.Modules[:len(list)], list) {
			t.Errorf("%s: what was handed in is %v now; it was %v", name, whole, was)
		}
	}
}

func TestP2WhatIsHandedInIsNotKept(t *testing.T) {
	for name, call := range calls() {
		w, do := call()
		first, second := do(w), do(w)
		want := told(first)
		wipe(w.r, w.m)
		if told(first) != want {
			t.Errorf("%s: a later change is seen: %v; it was %s", name, first, want)
		}
		wipe(first)
		if told(second) != want {
			t.Errorf("%s: two answers share memory: %v; must be %s", name, second, want)
		}
	}
}

func TestP2NoTwoListsShareMemory(t *testing.T) {
	m := mod("m", 64, "kernel")
	other := m
	other.Name = "other"
	third := m
	third.Name = "third"
	r := of(at(0, m), at(1, other))
	r.Kernel.Exports = m.Exports
	a, _ := plan.Install(r, third)
	b, _ := plan.Upgrade(r, other)
	c, _ := plan.Remove(r, "m")
	for _, got := range []api.Registry{a, b, c} {
		if len(got.Modules) == 0 {
			t.Fatal("no answer")
		}
		want := told(of(got.Modules[1:]...))
		k := fmt.Sprint(got.Kernel.Exports)
		x := got.Modules[0].Module
		clear(x.Exports)
		clear(x.Imports)
		clear(x.Patches)
		if told(of(got.Modules[1:]...)) != want || fmt.Sprint(got.Kernel.Exports) != k {
			t.Errorf("two lists of one answer share memory: %v", got)
		}
	}
}

func TestP3AnswersAreTheSameEachTime(t *testing.T) {
	for range 20 {
		w := installing()
		install(t, "sample", w, with(w.r, at(8, w.m)), api.OK)
		w = removing()
		remove(t, "sample", w, without(w.r, "a"), api.OK)
		w = upgrading()
		upgrade(t, "sample", w, with(without(w.r, "l"), at(2, w.m)), api.OK)
		w.m.Minor = 0
		upgrade(t, "an earlier one", w, none, api.ErrState)
	}
}
