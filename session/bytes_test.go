package session_test

import (
	"math"
	"regexp"
	"strings"
	"testing"

	"shipfitter/api"
	"shipfitter/module"
	"shipfitter/session"
)

// coded is a command, and its bytes written down by hand.
type coded struct {
	c api.Cmd
	s string
}

func codes() []coded {
	m := api.Module{Name: "a", Text: "wxyz"}
	app := api.Module{Name: "app", Minor: 255, Text: "\x00\x01\xfe\xff", Exports: []api.Export{{Name: "g", At: 3}}, Imports: []api.Import{{Module: "lib", Name: "f_1", Major: 1, Minor: 7}}, Patches: []api.Patch{{Kind: api.PatchWord, Add: 258}}}
	const a, b = "\x01a\x00\x00\x04\x00wxyz\x00\x00\x00", "\x03app\x00\xff\x04\x00\x00\x01\xfe\xff\x01\x01g\x03\x00\x01\x03lib\x03f_1\x01\x07\x01\x01\x00\x00\x01\x02\x01"
	return []coded{
		{put(m), "\x01" + a}, {put(app), "\x01" + b}, {anew(m), "\x03" + a}, {anew(app), "\x03" + b},
		{out("a"), "\x02a"}, {out("lib"), "\x02lib"}, {out("abcdefghij"), "\x02abcdefghij"}, {out("z_0"), "\x02z_0"}, {out("kernel"), "\x02kernel"},
		{pack(), "\x04"},
	}
}

func TestM1Bytes(t *testing.T) {
	for _, c := range codes() {
		encodes(t, "by hand", c.c, c.s, api.OK)
		decodes(t, c.s, c.c, api.OK)
	}
}

func TestM1TheGreatestModule(t *testing.T) {
	m := greatest()
	s, e := module.Encode(m)
	if e != api.OK || len(s) != 568 {
		t.Fatalf("Encode of the greatest module: %d bytes, %d", len(s), e)
	}
	encodes(t, "the greatest", put(m), "\x01"+s, api.OK)
	encodes(t, "the greatest", anew(m), "\x03"+s, api.OK)
	decodes(t, "\x01"+s, put(m), api.OK)
	decodes(t, "\x03"+s, anew(m), api.OK)
}

func TestM1Kinds(t *testing.T) {
	for _, kind := range []int{-1, 0, 5, 6, 255, 256, 257, 258, 259, 260, -252, -253, -255, 1<<32 + 1, 1<<32 + 4, math.MaxInt, math.MinInt, math.MinInt + 4} {
		for _, c := range []api.Cmd{{}, {Name: "a"}, {Name: "A"}, {Module: mod("a", 4)}, {Module: api.Module{Minor: 256}}, {Name: "a", Module: mod("a", 4)}} {
			c.Kind = kind
			encodes(t, "no kind", c, "", api.ErrKind)
		}
	}
}

// parts of a module, each by itself.
func parts() []api.Module {
	return []api.Module{{Name: "a"}, {Name: "\x00"}, {Major: 1}, {Major: -1}, {Minor: 1}, {Minor: -1}, {Minor: 300}, {Text: "a"}, {Text: "abcd"}, {Exports: make([]api.Export, 1)}, {Imports: make([]api.Import, 1)}, {Patches: make([]api.Patch, 1)}}
}

func TestM1WhatAKindDoesNotName(t *testing.T) {
	for _, m := range append(parts(), mod("a", 4), greatest()) {
		encodes(t, "a module", api.Cmd{Kind: api.CmdRemove, Name: "a", Module: m}, "", api.ErrForm)
		encodes(t, "a module, no name", api.Cmd{Kind: api.CmdRemove, Module: m}, "", api.ErrForm)
		encodes(t, "a module", api.Cmd{Kind: api.CmdCompact, Module: m}, "", api.ErrForm)
	}
	for _, name := range []string{"a", "\x00", " ", "A", "lib", "kernel", strings.Repeat("a", 1<<16)} {
		for _, kind := range []int{api.CmdInstall, api.CmdUpgrade} {
			encodes(t, "a name", api.Cmd{Kind: kind, Name: name, Module: mod("lib", 4)}, "", api.ErrForm)
			encodes(t, "a name", api.Cmd{Kind: kind, Name: name}, "", api.ErrForm)
		}
		encodes(t, "a name", api.Cmd{Kind: api.CmdCompact, Name: name}, "", api.ErrForm)
	}
}

func TestM1EmptyListsNilOrNot(t *testing.T) {
	none := api.Module{Exports: []api.Export{}, Imports: []api.Import{}, Patches: []api.Patch{}}
	encodes(t, "empty lists", api.Cmd{Kind: api.CmdRemove, Name: "a", Module: none}, "\x02a", api.OK)
	encodes(t, "empty lists", api.Cmd{Kind: api.CmdCompact, Module: none}, "\x04", api.OK)
	none.Name, none.Text = "a", "wxyz"
	encodes(t, "empty lists", put(none), "\x01\x01a\x00\x00\x04\x00wxyz\x00\x00\x00", api.OK)
}

// isName tells whether a text is a NAME of chapter 2.
var isName = regexp.MustCompile(`\A[a-z][a-z0-9_]{0,9}\z`).MatchString

func TestM1NamesOfRemove(t *testing.T) {
	names := []string{"", "abcdefghij", "abcdefghijk", "kernel", "kernels", "a_", "a0", "_a", "0a", "a b", "a\n", "\na", "a\x00", "a-b", "aB", "é", "aé", "a\xff", strings.Repeat("a", 11), strings.Repeat("a", 1<<16)}
	for c := range 256 {
		names = append(names, string([]byte{byte(c)}), string([]byte{'a', byte(c)}), "abcdefghi"+string([]byte{byte(c)}))
	}
	good := 0
	for _, name := range names {
		if isName(name) {
			good++
			encodes(t, "a name", out(name), "\x02"+name, api.OK)
			continue
		}
		encodes(t, "no name", out(name), "", api.ErrForm)
	}
	if good != 26+37+37+5 {
		t.Errorf("%d names are right", good)
	}
}

// fault is one change of a command, and what is told of it.
type fault struct {
	what   string
	want   api.Errno
	change func(c *api.Cmd)
}

// moduleFaults are what is wrong with a module, in the order of chapter 2.
func moduleFaults() []fault {
	return []fault{
		{"its name", api.ErrForm, func(c *api.Cmd) { c.Module.Name = "Lib" }},
		{"its version", api.ErrRange, func(c *api.Cmd) { c.Module.Minor = 256 }},
		{"many exports", api.ErrMany, func(c *api.Cmd) { c.Module.Exports = append(c.Module.Exports, make([]api.Export, 6)...) }},
		{"a byte less", api.ErrForm, func(c *api.Cmd) { c.Module.Text = c.Module.Text[1:] }},
		{"an export outside", api.ErrRange, func(c *api.Cmd) { c.Module.Exports[0].At = 12 }},
		{"an import twice", api.ErrTwice, func(c *api.Cmd) { c.Module.Imports = append(c.Module.Imports, c.Module.Imports[0]) }},
		{"a patch's kind", api.ErrKind, func(c *api.Cmd) { c.Module.Patches[0].Kind = 6 }},
		{"a patch ahead of the one ahead", api.ErrState, func(c *api.Cmd) { c.Module.Patches[1].At = 3 }},
	}
}

// eachFault tells of each fault of a command by itself, and beside each one that is named behind it.
func eachFault(t *testing.T, sample func() api.Cmd, all []fault) {
	t.Helper()
	changed := func(changes ...fault) api.Cmd {
		c := sample()
		for _, f := range changes {
			f.change(&c)
		}
		return c
	}
	for i, first := range all {
		encodes(t, first.what, changed(first), "", first.want)
		for _, later := range all[i+1:] {
			encodes(t, first.what+", "+later.what, changed(first, later), "", first.want)
		}
	}
}

func TestM1TheErrorThatIsNamedFirst(t *testing.T) {
	kind := fault{"its kind", api.ErrKind, func(c *api.Cmd) { c.Kind = 5 }}
	name := fault{"a name", api.ErrForm, func(c *api.Cmd) { c.Name = "lib" }}
	part := fault{"a module", api.ErrForm, func(c *api.Cmd) { c.Module.Minor = 256 }}
	for _, make := range []func(api.Module) api.Cmd{put, anew} {
		sample := func() api.Cmd { return make(mod("lib", 12, "kernel")) }
		if _, e := session.Encode(sample()); e != api.OK {
			t.Fatalf("Encode of the sample: %d", e)
		}
		eachFault(t, sample, append([]fault{kind, name}, moduleFaults()...))
	}
	eachFault(t, func() api.Cmd { return out("lib") }, []fault{kind, part, {"its name", api.ErrForm, func(c *api.Cmd) { c.Name = "Lib" }}})
	eachFault(t, pack, []fault{kind, part, name})
}

func TestM1OneBeyondTheGreatest(t *testing.T) {
	for _, f := range []fault{
		{"a letter more", api.ErrForm, func(c *api.Cmd) { c.Module.Name += "x" }},
		{"a version more", api.ErrRange, func(c *api.Cmd) { c.Module.Major++ }},
		{"a minor one more", api.ErrRange, func(c *api.Cmd) { c.Module.Minor++ }},
		{"four bytes more", api.ErrMany, func(c *api.Cmd) { c.Module.Text += "wxyz" }},
		{"an export more", api.ErrMany, func(c *api.Cmd) { c.Module.Exports = append(c.Module.Exports, api.Export{Name: "f"}) }},
		{"an export farther", api.ErrRange, func(c *api.Cmd) { c.Module.Exports[0].At++ }},
		{"an import more", api.ErrMany, func(c *api.Cmd) {
			c.Module.Imports = append(c.Module.Imports, api.Import{Module: "lib", Name: "f"})
		}},
		{"a patch more", api.ErrMany, func(c *api.Cmd) { c.Module.Patches = append(c.Module.Patches, c.Module.Patches[0]) }},
		{"a patch farther", api.ErrRange, func(c *api.Cmd) { c.Module.Patches[11].At++ }},
		{"a symbol more", api.ErrRange, func(c *api.Cmd) { c.Module.Patches[0].Symbol++ }},
		{"one more added", api.ErrRange, func(c *api.Cmd) { c.Module.Patches[0].Add++ }},
	} {
		eachFault(t, func() api.Cmd { return put(greatest()) }, []fault{f})
		eachFault(t, func() api.Cmd { return anew(greatest()) }, []fault{f})
	}
}

// decoded is what Decode must answer, by what chapter 2 says.
func decoded(s string) (api.Cmd, api.Errno) {
	if s == "" {
		return api.Cmd{}, api.ErrForm
	}
	rest := s[1:]
	m, e := module.Decode(rest)
	switch {
	case s[0] == 1 && e == api.OK:
		return put(m), api.OK
	case s[0] == 2 && isName(rest):
		return out(rest), api.OK
	case s[0] == 3 && e == api.OK:
		return anew(m), api.OK
	case s[0] == 4 && rest == "":
		return pack(), api.OK
	}
	return api.Cmd{}, api.ErrForm
}

// decodesAsMust holds Decode to the model, and what it answers to having just these bytes.
func decodesAsMust(t *testing.T, s string) {
	t.Helper()
	c, e := decoded(s)
	decodes(t, s, c, e)
	if e == api.OK {
		encodes(t, "what was decoded", c, s, api.OK)
	}
}

func TestM1DecodeOfAllShortTexts(t *testing.T) {
	decodesAsMust(t, "")
	for a := range 256 {
		decodesAsMust(t, string([]byte{byte(a)}))
		for b := range 256 {
			decodesAsMust(t, string([]byte{byte(a), byte(b)}))
			decodesAsMust(t, string([]byte{2, byte(a), byte(b)}))
		}
	}
}

func TestM1DecodeOfChangedBytes(t *testing.T) {
	for _, c := range codes() {
		for i := range len(c.s) {
			decodesAsMust(t, c.s[:i])
			decodesAsMust(t, c.s[i:])
			decodesAsMust(t, c.s[:i]+c.s[i+1:])
			decodesAsMust(t, c.s[:i]+c.s[i:i+1]+c.s[i:])
			for b := range 256 {
				decodesAsMust(t, c.s[:i]+string([]byte{byte(b)})+c.s[i+1:])
			}
		}
		for _, more := range []string{"\x00", "\x04", "\xff", "a", "aaaaaaaaaa", c.s} {
			decodesAsMust(t, c.s+more)
		}
	}
}

// Whatever is wrong with a command, of its bytes ErrForm is told: they are nobody's.
func TestM1DecodeTellsErrFormAlone(t *testing.T) {
	const head = "\x03app\x00\x00\x04\x00abcd"
	for what, s := range map[string]string{
		"no module":           "",
		"no name":             "\x00\x00\x00\x04\x00abcd\x00\x00\x00",
		"the kernel's name":   "\x06kernel\x00\x00\x04\x00abcd\x00\x00\x00",
		"many bytes":          "\x03app\x00\x00\x04\x01" + strings.Repeat("x", 260) + "\x00\x00\x00",
		"a byte less":         "\x03app\x00\x00\x03\x00abc\x00\x00\x00",
		"many exports":        head + "\x07" + strings.Repeat("\x00\x00\x00", 7) + "\x00\x00",
		"an export twice":     head + "\x02\x01f\x00\x00\x01f\x01\x00\x00\x00",
		"an export outside":   head + "\x01\x01f\x04\x00\x00\x00",
		"a patch's kind":      head + "\x00\x00\x01\x00\x00\x00\x00\x00\x00",
		"a patch's symbol":    head + "\x00\x00\x01\x01\x00\x00\x01\x00\x00",
		"patches in one way":  head + "\x00\x00\x02\x03\x00\x00\x00\x00\x00\x03\x01\x00\x00\x00\x00",
		"something behind it": head + "\x00\x00\x00!",
	} {
		if _, e := module.Decode(s); e == api.OK {
			t.Fatalf("%s: these are bytes of a module", what)
		}
		for _, kind := range []string{"\x00", "\x01", "\x02", "\x03", "\x05", "\xff"} {
			decodes(t, kind+s, api.Cmd{}, api.ErrForm)
		}
	}
	decodes(t, "\x01"+head+"\x00\x00\x00", put(api.Module{Name: "app", Text: "abcd"}), api.OK)
}
