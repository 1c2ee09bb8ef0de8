package session_test

import (
	"fmt"
	"math"
	"slices"
	"strings"
	"testing"

	"shipfitter/api"
	"shipfitter/registry"
	"shipfitter/session"
)

// sample is a registry that is right: sectors 0, 2, 3 and 8 to 14 are free. app asks lib and the kernel, lib asks the kernel.
func sample() api.Registry {
	return of(at(1, mod("app", 60, "lib", "kernel")), at(4, mod("lib", 100, "kernel")), at(6, mod("x", 64)), at(7, mod("y", 4)), at(15, mod("end", 64)))
}

// with is the sample with one more module, ahead of the one of that place in the list.
func with(i int, p api.Placed) api.Registry {
	r := sample()
	r.Modules = slices.Insert(r.Modules, i, p)
	return r
}

func TestM2OneCommand(t *testing.T) {
	m := mod("new", 256, "lib", "kernel")
	runs(t, "Install", sample(), []api.Cmd{put(m)}, with(4, at(8, m)), allOK(1), api.OK)
	small := mod("new", 64)
	runs(t, "Install in the first room", sample(), []api.Cmd{put(small)}, with(0, at(0, small)), allOK(1), api.OK)

	r := sample()
	r.Modules = r.Modules[1:]
	runs(t, "Remove", sample(), []api.Cmd{out("app")}, r, allOK(1), api.OK)

	r = sample()
	r.Modules[2].Module = mod("x", 16)
	runs(t, "Upgrade where it was", sample(), []api.Cmd{anew(mod("x", 16))}, r, allOK(1), api.OK)
	r.Modules[2], r.Modules[3] = r.Modules[3], at(8, mod("x", 256))
	runs(t, "Upgrade elsewhere", sample(), []api.Cmd{anew(mod("x", 256))}, r, allOK(1), api.OK)

	r = sample()
	for i, first := range []int{0, 1, 3, 4, 5} {
		r.Modules[i].First = first
	}
	runs(t, "Pack", sample(), []api.Cmd{pack()}, r, allOK(1), api.OK)
	runs(t, "Pack of what is packed", r, []api.Cmd{pack()}, r, allOK(1), api.OK)
	runs(t, "Pack of nothing", of(), []api.Cmd{pack()}, of(), allOK(1), api.OK)
}

func TestM2NoCommands(t *testing.T) {
	for _, l := range [][]api.Cmd{nil, {}} {
		runs(t, "none", sample(), l, sample(), nil, api.OK)
		runs(t, "none, no modules", of(), l, of(), nil, api.OK)
		runs(t, "nothing at all", noRegistry, l, noRegistry, nil, api.OK)
	}
}

// full is a registry with as many modules as may be, of two sectors each.
func full() api.Registry {
	r := of()
	for i := range 8 {
		r.Modules = append(r.Modules, at(2*i, mod(fmt.Sprint("n", i), 128)))
	}
	return r
}

func TestM2CommandsThatHaveAnErrno(t *testing.T) {
	odd := mod("odd", 64)
	odd.Patches[0].Add = 0
	old := mod("lib", 64)
	old.Minor = 0
	for _, c := range []struct {
		what string
		c    api.Cmd
		want api.Errno
	}{
		{"Install of a name that is there", put(mod("lib", 4)), api.ErrTwice},
		{"Install that asks for what is not there", put(mod("new", 64, "none")), api.ErrNone},
		{"Install of one that needs itself", put(mod("new", 64, "new")), api.ErrState},
		{"Install with an odd call", put(odd), api.ErrState},
		{"Remove of what is not there", out("none"), api.ErrNone},
		{"Remove of the kernel", out("kernel"), api.ErrNone},
		{"Remove of what is needed", out("lib"), api.ErrState},
		{"Upgrade of what is not there", anew(mod("new", 64)), api.ErrNone},
		{"Upgrade to an earlier one", anew(old), api.ErrState},
		{"Upgrade with a ring", anew(mod("lib", 64, "app")), api.ErrState},
	} {
		runs(t, c.what, sample(), []api.Cmd{c.c}, sample(), []api.Errno{c.want}, api.OK)
		runs(t, c.what+", twice, then Pack", packed(), []api.Cmd{c.c, c.c, pack()}, packed(), []api.Errno{c.want, c.want, api.OK}, api.OK)
	}
	runs(t, "no place, no room", full(), []api.Cmd{put(mod("new", 4)), anew(mod("n0", 132)), put(mod("n7", 4))}, full(), []api.Errno{api.ErrMany, api.ErrSpace, api.ErrTwice}, api.OK)
	r := full()
	r.Modules = append(r.Modules[:6], at(12, mod("n6", 256)))
	runs(t, "no room", r, []api.Cmd{put(mod("new", 4))}, r, []api.Errno{api.ErrSpace}, api.OK)
}

// packed is the sample without free sectors between modules.
func packed() api.Registry {
	r := sample()
	for i, first := range []int{0, 1, 3, 4, 5} {
		r.Modules[i].First = first
	}
	return r
}

// A command that has no bytes has the Errno of Encode, whatever else there is against it, and nothing comes of it.
func TestM2CommandsThatEncodeHasAnErrorOf(t *testing.T) {
	late := mod("lib", 64)
	late.Minor = 256
	many := mod("n0", 260)
	for _, c := range []struct {
		what string
		c    api.Cmd
		want api.Errno
	}{
		{"no kind", api.Cmd{}, api.ErrKind},
		{"kind 5", api.Cmd{Kind: 5, Name: "none"}, api.ErrKind},
		{"kind 260", api.Cmd{Kind: 260}, api.ErrKind},
		{"Install, a name too", api.Cmd{Kind: api.CmdInstall, Module: mod("new", 64), Name: "new"}, api.ErrForm},
		{"Install, no module", api.Cmd{Kind: api.CmdInstall}, api.ErrForm},
		{"Install, a wrong one of a name that is there", put(late), api.ErrRange},
		{"Install, too many bytes", put(many), api.ErrMany},
		{"Remove, a module too", api.Cmd{Kind: api.CmdRemove, Name: "app", Module: mod("app", 4)}, api.ErrForm},
		{"Remove, a version too", api.Cmd{Kind: api.CmdRemove, Name: "app", Module: api.Module{Major: 1}}, api.ErrForm},
		{"Remove, no name", out(""), api.ErrForm},
		{"Remove, a name that is none", out("App"), api.ErrForm},
		{"Remove, a long name", out("abcdefghijk"), api.ErrForm},
		{"Upgrade, a name too", api.Cmd{Kind: api.CmdUpgrade, Module: mod("x", 16), Name: "x"}, api.ErrForm},
		{"Upgrade, the name in the wrong place", api.Cmd{Kind: api.CmdUpgrade, Name: "x"}, api.ErrForm},
		{"Upgrade to a wrong one", anew(late), api.ErrRange},
		{"Pack, a name too", api.Cmd{Kind: api.CmdCompact, Name: "x"}, api.ErrForm},
		{"Pack, a module too", api.Cmd{Kind: api.CmdCompact, Module: mod("x", 16)}, api.ErrForm},
	} {
		encodes(t, c.what, c.c, "", c.want)
		for _, r := range []api.Registry{sample(), full(), of()} {
			runs(t, c.what, r, []api.Cmd{c.c}, r, []api.Errno{c.want}, api.OK)
		}
		m := mod("m", 64)
		runs(t, c.what+" between others", of(), []api.Cmd{put(m), c.c, out("m"), c.c, put(m)}, of(at(0, m)), []api.Errno{0, c.want, 0, c.want, 0}, api.OK)
	}
}

func TestM2OneCommandBehindTheOther(t *testing.T) {
	a, b, c := mod("a", 100), mod("b", 64, "a"), mod("c", 200, "b", "kernel")
	l := []api.Cmd{put(b), put(a), put(b), put(c), out("a"), out("c"), put(c), put(c), anew(mod("a", 132)), pack(), out("b"), out("c"), out("b"), pack()}
	want := []api.Errno{api.ErrNone, 0, 0, 0, api.ErrState, 0, 0, api.ErrTwice, 0, 0, api.ErrState, 0, 0, 0}
	runs(t, "all", of(), l, of(at(0, mod("a", 132))), want, api.OK)
	runs(t, "up to Upgrade", of(), l[:9], of(at(2, b), at(3, c), at(7, mod("a", 132))), want[:9], api.OK)
	runs(t, "up to Pack", of(), l[:10], of(at(0, b), at(1, c), at(5, mod("a", 132))), want[:10], api.OK)
}

func TestM2HowManyThereMayBe(t *testing.T) {
	l := slices.Repeat([]api.Cmd{put(mod("m", 64)), out("m")}, 20)
	for n := range 41 {
		want := of()
		if n%2 == 1 {
			want = of(at(0, mod("m", 64)))
		}
		runs(t, fmt.Sprint(n, " commands"), of(), l[:n], want, allOK(n), api.OK)
	}
	for _, n := range []int{41, 42, 80, 256, 1 << 16} {
		runs(t, fmt.Sprint(n, " commands"), of(), slices.Repeat([]api.Cmd{pack()}, n), noRegistry, nil, api.ErrMany)
		runs(t, fmt.Sprint(n, " that are none"), sample(), make([]api.Cmd, n), noRegistry, nil, api.ErrMany)
	}
	runs(t, "40 that are none", sample(), make([]api.Cmd, 40), sample(), slices.Repeat([]api.Errno{api.ErrKind}, 40), api.OK)
}

// registryFault is one change of the sample, and what Check tells of it.
type registryFault struct {
	what   string
	want   api.Errno
	change func(r *api.Registry)
}

// registryFaults are what Check has against a registry, in its order.
func registryFaults() []registryFault {
	return []registryFault{
		{"the kernel's version", api.ErrRange, func(r *api.Registry) { r.Kernel.Major = -1 }},
		{"the kernel's exports are many", api.ErrMany, func(r *api.Registry) { r.Kernel.Exports = append(r.Kernel.Exports, make([]api.Export, 6)...) }},
		{"the kernel's exports", api.ErrForm, func(r *api.Registry) { r.Kernel.Exports[0].Name = "F" }},
		{"many are placed", api.ErrMany, func(r *api.Registry) {
			r.Modules = append(r.Modules, at(15, mod("a", 4)), at(15, mod("b", 4)), at(15, mod("c", 4)), at(15, mod("d", 4)))
		}},
		{"app's place", api.ErrRange, func(r *api.Registry) { r.Modules[0].First = -1 }},
		{"x's bytes", api.ErrForm, func(r *api.Registry) { r.Modules[2].Module.Text = "xxx" }},
		{"end's patch", api.ErrKind, func(r *api.Registry) { r.Modules[4].Module.Patches[0].Kind = 0 }},
		{"end in the way", api.ErrState, func(r *api.Registry) { r.Modules[4].First = 6 }},
		{"two of one name", api.ErrTwice, func(r *api.Registry) { r.Modules[4].Module.Name = "lib" }},
		{"lib and app need each other", api.ErrState, func(r *api.Registry) {
			m := &r.Modules[1].Module
			m.Imports = append(m.Imports, api.Import{Module: "app", Name: "f", Major: 1, Minor: 1})
		}},
		{"app's import", api.ErrNone, func(r *api.Registry) { r.Modules[0].Module.Imports[1].Name = "none" }},
		{"end's odd call", api.ErrState, func(r *api.Registry) { r.Modules[4].Module.Patches[0].Add++ }},
	}
}

func TestM2TheErrorThatIsNamedFirst(t *testing.T) {
	all := registryFaults()
	for i, first := range all {
		var changes []func(r *api.Registry)
		changes = append(changes, func(r *api.Registry) {})
		for _, later := range all[i+1:] {
			changes = append(changes, later.change)
		}
		for _, later := range changes {
			r := copied(sample())
			first.change(&r)
			later(&r)
			if e := registry.Check(r); e != first.want {
				t.Fatalf("%s: Check = %d; must be %d", first.what, e, first.want)
			}
			for _, many := range []int{0, 1, 40, 41, 1000} {
				runs(t, fmt.Sprint(first.what, ", ", many, " commands"), r, make([]api.Cmd, many), noRegistry, nil, first.want)
			}
			runs(t, first.what+", then what would mend it", r, []api.Cmd{out("end"), out("app")}, noRegistry, nil, first.want)
		}
	}
}

func TestP1RunNeverPanics(t *testing.T) {
	lists := [][]api.Placed{nil, make([]api.Placed, 1), make([]api.Placed, 1<<16), {{First: math.MinInt}}, {at(math.MaxInt, mod("a", 64))}, {at(0, mod("a", 4)), {}}}
	wrong := []api.Cmd{{}, {Kind: 1}, {Kind: 2}, {Kind: 3}, {Kind: math.MinInt}, {Kind: 1, Module: api.Module{Name: strings.Repeat("a", 1<<16)}}, {Kind: 3, Module: api.Module{Name: "a", Text: "abcd", Patches: make([]api.Patch, 1<<16)}}, {Kind: 2, Name: strings.Repeat("\xff", 1<<16)}, {Kind: 4, Module: greatest()}}
	for _, k := range []api.Kernel{{}, {Major: -1}, {Minor: math.MaxInt}, {Exports: make([]api.Export, 1<<16)}} {
		for _, modules := range lists {
			r := api.Registry{Kernel: k, Modules: modules}
			want := registry.Check(r)
			got, errnos, e := session.Run(r, wrong)
			if e != want || e != api.OK && (told(got) != told(noRegistry) || len(errnos) != 0) || e == api.OK && (len(errnos) != len(wrong) || slices.Contains(errnos, api.OK)) {
				t.Errorf("Run = %+v, %v, %d; Check = %d", got, errnos, e, want)
			}
		}
	}
}
