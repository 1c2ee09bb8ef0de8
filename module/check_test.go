package module_test

import (
	"fmt"
	"math"
	"strings"
	"testing"

	"shipfitter/api"
	"shipfitter/module"
)

func checks(t *testing.T, what string, want api.Errno, changes ...func(m *api.Module)) {
	t.Helper()
	if e := module.Check(changed(changes...)); e != want {
		t.Errorf("%s: Check = %d; must be %d", what, e, want)
	}
}

// fault is one thing that is wrong with the sample.
type fault struct {
	what   string
	want   api.Errno
	change func(m *api.Module)
}

// faults in the order in which B1 names them; thing by thing each stands at a later thing than the ones ahead.
func faults() []fault {
	return []fault{
		{"name", api.ErrForm, func(m *api.Module) { m.Name = "App" }},
		{"version", api.ErrRange, func(m *api.Module) { m.Minor = 256 }},
		{"many", api.ErrMany, func(m *api.Module) { m.Imports = append(m.Imports, make([]api.Import, 4)...) }},
		{"bytes", api.ErrForm, func(m *api.Module) { m.Text += "x" }},
		{"export's name", api.ErrForm, func(m *api.Module) { m.Exports[0].Name = "" }},
		{"export twice", api.ErrTwice, func(m *api.Module) { m.Exports[1].Name = m.Exports[0].Name }},
		{"export's place", api.ErrRange, func(m *api.Module) { m.Exports[2].At = 999 }},
		{"import's name", api.ErrForm, func(m *api.Module) { m.Imports[0].Name = "F" }},
		{"import twice", api.ErrTwice, func(m *api.Module) { m.Imports[1].Module, m.Imports[1].Name = m.Imports[0].Module, m.Imports[0].Name }},
		{"import's version", api.ErrRange, func(m *api.Module) { m.Imports[2].Major = -1 }},
		{"patch's kind", api.ErrKind, func(m *api.Module) { m.Patches[0].Kind = 6 }},
		{"patch's symbol", api.ErrRange, func(m *api.Module) { m.Patches[1].Symbol = 99 }},
		{"patch's place", api.ErrRange, func(m *api.Module) { m.Patches[2].At = -1 }},
		{"patch's order", api.ErrState, func(m *api.Module) { m.Patches[3].At = 0 }},
	}
}

func TestB1TheErrorThatIsNamedFirst(t *testing.T) {
	checks(t, "sample", api.OK)
	for i, first := range faults() {
		checks(t, first.what, first.want, first.change)
		for _, later := range faults()[i+1:] {
			checks(t, first.what+", "+later.what, first.want, first.change, later.change)
			checks(t, later.what+", "+first.what, first.want, later.change, first.change)
		}
	}
}

func TestB1TheFirstThingTells(t *testing.T) {
	checks(t, "export: place ahead of a name", api.ErrRange, func(m *api.Module) { m.Exports[0].At, m.Exports[1].Name = -1, "" })
	checks(t, "export: name and place", api.ErrForm, func(m *api.Module) { m.Exports[1].At, m.Exports[1].Name = -1, "" })
	checks(t, "export: twice and place", api.ErrTwice, func(m *api.Module) { m.Exports[1].At, m.Exports[1].Name = -1, "f" })
	checks(t, "import: version ahead of a name", api.ErrRange, func(m *api.Module) { m.Imports[0].Major, m.Imports[1].Name = 256, "" })
	checks(t, "import: name and version", api.ErrForm, func(m *api.Module) { m.Imports[1].Major, m.Imports[1].Module = 256, "" })
	checks(t, "import: twice and version", api.ErrTwice, func(m *api.Module) { m.Imports[2].Minor, m.Imports[2].Name = 256, "f" })
	checks(t, "patch: order ahead of a kind", api.ErrState, func(m *api.Module) { m.Patches[1].At, m.Patches[2].Kind = 3, 0 })
	checks(t, "patch: kind and symbol", api.ErrKind, func(m *api.Module) { m.Patches[1].Kind, m.Patches[1].Symbol = 0, 99 })
	checks(t, "patch: symbol and order", api.ErrRange, func(m *api.Module) { m.Patches[1].Symbol, m.Patches[1].At = 99, 0 })
	checks(t, "patch: add and order", api.ErrRange, func(m *api.Module) { m.Patches[1].Add, m.Patches[1].At = 65536, 0 })
}

// naming: all places where a name stands.
func naming() []func(m *api.Module, s string) {
	return []func(m *api.Module, s string){
		func(m *api.Module, s string) { m.Name = s },
		func(m *api.Module, s string) { m.Exports[0].Name = s },
		func(m *api.Module, s string) { m.Imports[0].Module = s },
		func(m *api.Module, s string) { m.Imports[0].Name = s },
	}
}

func TestB1Names(t *testing.T) {
	named := func(s string, want api.Errno) {
		t.Helper()
		for i, name := range naming() {
			checks(t, fmt.Sprintf("name %q at %d", s, i), want, func(m *api.Module) { name(m, s) })
		}
	}
	for c := range 256 {
		first, later := api.ErrForm, api.ErrForm
		if c >= 'a' && c <= 'z' {
			first, later = api.OK, api.OK
		} else if c >= '0' && c <= '9' || c == '_' {
			later = api.OK
		}
		named(string([]byte{byte(c), 'q'}), first)
		named(string([]byte{'q', byte(c)}), later)
		named(string([]byte{'q', byte(c), 'q'}), later)
	}
	named("", api.ErrForm)
	named("z", api.OK)
	named("abcdefgh_9", api.OK)
	named("abcdefgh_9a", api.ErrForm)
	named("kernel_", api.OK)
	named("kerne", api.OK)
	named("é", api.ErrForm)
}

func TestB1KernelName(t *testing.T) {
	want := []api.Errno{api.ErrForm, api.OK, api.OK, api.OK}
	for i, name := range naming() {
		checks(t, fmt.Sprint("kernel at ", i), want[i], func(m *api.Module) {
			m.Imports = m.Imports[:1]
			m.Patches = nil
			name(m, api.KernelName)
		})
	}
}

func TestB1Versions(t *testing.T) {
	for _, n := range []int{math.MinInt, -1, 0, 1, 255, 256, math.MaxInt} {
		want := api.ErrRange
		if n >= 0 && n <= 255 {
			want = api.OK
		}
		what := fmt.Sprint("version ", n)
		checks(t, what, want, func(m *api.Module) { m.Major = n })
		checks(t, what, want, func(m *api.Module) { m.Minor = n })
		checks(t, what, want, func(m *api.Module) { m.Imports[1].Major = n })
		checks(t, what, want, func(m *api.Module) { m.Imports[1].Minor = n })
	}
}

func TestB1Bytes(t *testing.T) {
	for n := range 300 {
		want := api.OK
		if n > 256 {
			want = api.ErrMany
		} else if n == 0 || n%4 != 0 {
			want = api.ErrForm
		}
		checks(t, fmt.Sprint(n, " bytes"), want, func(m *api.Module) {
			m.Text, m.Exports, m.Patches = strings.Repeat("\xff", n), nil, nil
		})
	}
}

func TestB1Many(t *testing.T) {
	for n := range 300 {
		want := func(most int) api.Errno {
			if n > most {
				return api.ErrMany
			}
			return api.OK
		}
		var exports []api.Export
		var imports []api.Import
		var patches []api.Patch
		for i := range n {
			exports = append(exports, api.Export{Name: fmt.Sprint("e", i)})
			imports = append(imports, api.Import{Module: fmt.Sprint("i", i), Name: "f"})
			patches = append(patches, api.Patch{Kind: api.PatchWord, At: 4 * i, Symbol: -1})
		}
		checks(t, fmt.Sprint(n, " exports"), want(6), func(m *api.Module) { m.Exports = exports })
		checks(t, fmt.Sprint(n, " imports"), want(6), func(m *api.Module) { m.Imports, m.Patches = imports, nil })
		checks(t, fmt.Sprint(n, " patches"), want(12), func(m *api.Module) { m.Patches = patches })
	}
}

func TestB1Exports(t *testing.T) {
	for _, at := range []int{math.MinInt, -1, 0, 63, 64, math.MaxInt} {
		want := api.ErrRange
		if at >= 0 && at < 64 {
			want = api.OK
		}
		checks(t, fmt.Sprint("export at ", at), want, func(m *api.Module) { m.Exports[1].At = at })
	}
	checks(t, "two at one place", api.OK, func(m *api.Module) { m.Exports[1].At = m.Exports[0].At })
	checks(t, "the last one is the first one", api.ErrTwice, func(m *api.Module) { m.Exports[2].Name = "f" })
}

func TestB1Imports(t *testing.T) {
	checks(t, "the last one is the first one", api.ErrTwice, func(m *api.Module) { m.Imports[2].Name = "f" })
	checks(t, "twice, of another version", api.ErrTwice, func(m *api.Module) { m.Imports[2] = api.Import{Module: "lib", Name: "f", Major: 9, Minor: 9} })
	checks(t, "names that are one text together", api.OK, func(m *api.Module) {
		m.Imports = []api.Import{{Module: "ab", Name: "c"}, {Module: "a", Name: "bc"}, {Module: "c", Name: "ab"}}
	})
	checks(t, "itself", api.OK, func(m *api.Module) { m.Imports[0].Module = m.Name })
}

func TestB1PatchSymbolsAndAdds(t *testing.T) {
	for _, n := range []int{math.MinInt, -2, -1, 0, 2, 3, math.MaxInt} {
		want := api.ErrRange
		if n >= -1 && n < 3 {
			want = api.OK
		}
		checks(t, fmt.Sprint("symbol ", n), want, func(m *api.Module) { m.Patches[1].Symbol = n })
	}
	checks(t, "no imports, symbol 0", api.ErrRange, func(m *api.Module) { m.Imports, m.Patches = nil, []api.Patch{{Kind: 1, Symbol: 0}} })
	checks(t, "no imports, symbol -1", api.OK, func(m *api.Module) { m.Imports, m.Patches = nil, []api.Patch{{Kind: 1, Symbol: -1}} })
	for _, n := range []int{math.MinInt, -1, 0, 65535, 65536, math.MaxInt} {
		want := api.ErrRange
		if n >= 0 && n <= 65535 {
			want = api.OK
		}
		checks(t, fmt.Sprint("add ", n), want, func(m *api.Module) { m.Patches[1].Add = n })
	}
}

func TestB1PatchKindsAndPlaces(t *testing.T) {
	for _, kind := range []int{math.MinInt, -1, 0, 6, 255, 256, 257, math.MaxInt} {
		checks(t, fmt.Sprint("kind ", kind), api.ErrKind, func(m *api.Module) { m.Patches[1].Kind = kind })
	}
	for kind := 1; kind <= 5; kind++ {
		width := widths[kind]
		for _, at := range []int{math.MinInt, -1, 0, 64 - width, 64 - width + 1, 64, math.MaxInt - 2, math.MaxInt} {
			want := api.ErrRange
			if at >= 0 && at <= 64-width {
				want = api.OK
			}
			one := []api.Patch{{Kind: kind, At: at}}
			checks(t, fmt.Sprint("kind ", kind, " at ", at), want, func(m *api.Module) { m.Patches = one })
		}
		for later := 1; later <= 5; later++ {
			for at := range 20 {
				want := api.OK
				if at < 8+width {
					want = api.ErrState
				}
				two := []api.Patch{{Kind: kind, At: 8}, {Kind: later, At: at}}
				checks(t, fmt.Sprint("kind ", later, " at ", at, " behind kind ", kind), want, func(m *api.Module) { m.Patches = two })
			}
		}
	}
}
