package session_test

import (
	"fmt"
	"slices"
	"strings"
	"testing"

	"shipfitter/api"
	"shipfitter/journal"
	"shipfitter/session"
)

// mod is a module of so many bytes, all of them the first letter of its name, which asks for f of others; its last bytes call itself.
func mod(name string, bytes int, others ...string) api.Module {
	m := api.Module{Name: name, Major: 1, Minor: 2, Text: strings.Repeat(name[:1], bytes), Exports: []api.Export{{Name: "f", At: bytes - 2}}}
	for i, o := range others {
		m.Imports = append(m.Imports, api.Import{Module: o, Name: "f", Major: 1, Minor: 1})
		m.Patches = append(m.Patches, api.Patch{Kind: api.PatchWord, At: 4 * i, Symbol: i, Add: i})
	}
	m.Patches = append(m.Patches, api.Patch{Kind: api.PatchCall, At: bytes - 3, Symbol: -1, Add: 1})
	return m
}

// greatest is a module than which none is greater.
func greatest() api.Module {
	m := api.Module{Name: "zabcdefghi", Major: 255, Minor: 255, Text: strings.Repeat("\xff", 256)}
	for i := range 6 {
		name := fmt.Sprint("x", strings.Repeat("y", 8), i)
		m.Exports = append(m.Exports, api.Export{Name: name, At: 255 - i})
		m.Imports = append(m.Imports, api.Import{Module: "zzzzzzzzzz", Name: name, Major: 255, Minor: 255})
	}
	for i := range 12 {
		m.Patches = append(m.Patches, api.Patch{Kind: api.PatchCall, At: 256 - 3*(12-i), Symbol: 5, Add: 65535})
	}
	return m
}

func kernel() api.Kernel {
	return api.Kernel{Major: 1, Minor: 2, Exports: []api.Export{{Name: "f", At: 100}, {Name: "odd", At: 33}, {Name: "last", At: 4095}}}
}

// at is a module in a sector.
func at(first int, m api.Module) api.Placed { return api.Placed{Module: m, First: first} }

// of is a registry of modules.
func of(l ...api.Placed) api.Registry { return api.Registry{Kernel: kernel(), Modules: l} }

func put(m api.Module) api.Cmd { return api.Cmd{Kind: api.CmdInstall, Module: m} }

func out(name string) api.Cmd { return api.Cmd{Kind: api.CmdRemove, Name: name} }

func anew(m api.Module) api.Cmd { return api.Cmd{Kind: api.CmdUpgrade, Module: m} }

func pack() api.Cmd { return api.Cmd{Kind: api.CmdCompact} }

// told is a thing as a text: an empty list is told as none.
func told(a any) string { return fmt.Sprintf("%+v", a) }

// copied shares no list with the registry that it is a copy of.
func copied(r api.Registry) api.Registry {
	r.Kernel.Exports = slices.Clone(r.Kernel.Exports)
	r.Modules = slices.Clone(r.Modules)
	for i, p := range r.Modules {
		r.Modules[i].Module = copiedModule(p.Module)
	}
	return r
}

func copiedModule(m api.Module) api.Module {
	m.Exports, m.Imports, m.Patches = slices.Clone(m.Exports), slices.Clone(m.Imports), slices.Clone(m.Patches)
	return m
}

func encodes(t *testing.T, what string, c api.Cmd, want string, e api.Errno) {
	t.Helper()
	if s, f := session.Encode(c); s != want || f != e {
		t.Errorf("%s: Encode(%+v) = %q, %d; must be %q, %d", what, c, s, f, want, e)
	}
}

func decodes(t *testing.T, s string, want api.Cmd, e api.Errno) {
	t.Helper()
	if c, f := session.Decode(s); told(c) != told(want) || f != e {
		t.Errorf("Decode(%q) = %+v, %d; must be %+v, %d", s, c, f, want, e)
	}
}

func runs(t *testing.T, what string, r api.Registry, l []api.Cmd, want api.Registry, errnos []api.Errno, e api.Errno) {
	t.Helper()
	if got, each, f := session.Run(r, l); told(got) != told(want) || !slices.Equal(each, errnos) || f != e {
		t.Errorf("%s: Run = %+v, %v, %d; must be %+v, %v, %d", what, got, each, f, want, errnos, e)
	}
}

func reopens(t *testing.T, what string, f api.Flash, want api.Registry, e api.Errno) {
	t.Helper()
	for range 2 {
		if got, g := session.Reopen(kernel(), f); told(got) != told(want) || g != e {
			t.Errorf("%s: Reopen = %+v, %d; must be %+v, %d", what, got, g, want, e)
		}
	}
}

// plays holds Play to a flash to the byte, and to Errnos.
func plays(t *testing.T, what string, f api.Flash, l []api.Cmd, want api.Flash, errnos []api.Errno, e api.Errno) {
	t.Helper()
	if got, each, g := session.Play(kernel(), f, l); !slices.Equal(got.Blocks, want.Blocks) || !slices.Equal(each, errnos) || g != e {
		t.Errorf("%s: Play = %q, %v, %d; must be %q, %v, %d", what, got.Blocks, each, g, want.Blocks, errnos, e)
	}
}

// formatted is a flash on which no records are.
func formatted(t *testing.T, blocks int) api.Flash {
	t.Helper()
	f, e := journal.Format(blocks)
	if e != api.OK {
		t.Fatalf("Format(%d): %d", blocks, e)
	}
	return f
}

// written is a flash with more records.
func written(t *testing.T, f api.Flash, records ...string) api.Flash {
	t.Helper()
	for _, s := range records {
		var e api.Errno
		if f, _, e = journal.Append(f, s); e != api.OK {
			t.Fatalf("Append of %q: %d", s, e)
		}
	}
	return f
}

// records of commands that have no error.
func records(t *testing.T, l ...api.Cmd) []string {
	t.Helper()
	var all []string
	for _, c := range l {
		s, e := session.Encode(c)
		if e != api.OK {
			t.Fatalf("Encode(%+v): %d", c, e)
		}
		all = append(all, s)
	}
	return all
}

// has holds a flash to its records.
func has(t *testing.T, what string, f api.Flash, want ...string) {
	t.Helper()
	if l, e := journal.Open(f); !slices.Equal(l, want) || e != api.OK {
		t.Errorf("%s: Open = %q, %d; must be %q", what, l, e, want)
	}
}

// allOK are so many Errnos that are none.
func allOK(many int) []api.Errno { return make([]api.Errno, many) }

var (
	noRegistry api.Registry
	noFlash    api.Flash
)
