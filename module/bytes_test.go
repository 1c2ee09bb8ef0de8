package module_test

import (
	"fmt"
	"slices"
	"strings"
	"testing"

	"shipfitter/api"
	"shipfitter/module"
)

// coded is a module, and its bytes written down by hand.
type coded struct {
	m api.Module
	s string
}

func codes() []coded {
	return []coded{
		{api.Module{Name: "a", Text: "wxyz"}, "\x01a\x00\x00\x04\x00wxyz\x00\x00\x00"},
		{api.Module{Name: "lib", Major: 1, Minor: 2, Text: "12345678", Exports: []api.Export{{Name: "f", At: 4}}},
			"\x03lib\x01\x02\x08\x0012345678\x01\x01f\x04\x00\x00\x00"},
		{api.Module{Name: "app", Minor: 255, Text: "\x00\x01\xfe\xff", Imports: []api.Import{{Module: "lib", Name: "f_1", Major: 1, Minor: 7}}, Patches: []api.Patch{{Kind: api.PatchWord, Add: 1}}},
			"\x03app\x00\xff\x04\x00\x00\x01\xfe\xff\x00\x01\x03lib\x03f_1\x01\x07\x01\x01\x00\x00\x01\x01\x00"},
		{api.Module{Name: "abcdefghij", Major: 255, Text: strings.Repeat("t", 256), Exports: []api.Export{{Name: "x", At: 255}, {Name: "kernel"}}, Patches: []api.Patch{{Kind: api.PatchCall, At: 10, Symbol: -1, Add: 65535}, {Kind: api.PatchHigh, At: 254, Symbol: -1, Add: 258}}},
			"\x0aabcdefghij\xff\x00\x00\x01" + strings.Repeat("t", 256) + "\x02\x01x\xff\x00\x06kernel\x00\x00\x00\x02\x05\x0a\x00\x00\xff\xff\x03\xfe\x00\x00\x02\x01"},
	}
}

func TestB2Bytes(t *testing.T) {
	for _, c := range codes() {
		if s, e := module.Encode(c.m); s != c.s || e != api.OK {
			t.Errorf("Encode(%v) = %q, %d; must be %q", c.m, s, e, c.s)
		}
		if m, e := module.Decode(c.s); !same(m, c.m) || e != api.OK {
			t.Errorf("Decode(%q) = %v, %d; must be %v", c.s, m, e, c.m)
		}
	}
}

func TestB2EncodeTellsWhatCheckSays(t *testing.T) {
	for _, f := range faults() {
		if s, e := module.Encode(changed(f.change)); s != "" || e != f.want {
			t.Errorf("%s: Encode = %q, %d; must be %d", f.what, s, e, f.want)
		}
	}
}

func refuses(t *testing.T, s string, want api.Errno) {
	t.Helper()
	if m, e := module.Decode(s); !same(m, api.Module{}) || e != want {
		t.Errorf("Decode(%q) = %v, %d; must be none, %d", s, m, e, want)
	}
}

func TestB2DecodeOfBytesThatNoModuleHas(t *testing.T) {
	s, _ := module.Encode(sample())
	for _, c := range append(codes(), coded{sample(), s}) {
		for n := range len(c.s) {
			refuses(t, c.s[:n], api.ErrForm)
		}
		for _, more := range []string{"\x00", "\x01", "\xff", "a", c.s} {
			refuses(t, c.s+more, api.ErrForm)
		}
	}
	refuses(t, "\xff", api.ErrForm)
	refuses(t, strings.Repeat("\xff", 100000), api.ErrForm)
	refuses(t, strings.Repeat("\x00", 100000), api.ErrForm)
}

func TestB2DecodeTellsNoModuleAheadOfWhatCheckSays(t *testing.T) {
	refuses(t, "\x03app\x00\x00\x04\x00abcd\x01\x01f\x04\x00\x00\x00", api.ErrRange)
	refuses(t, "\x03app\x00\x00\x04\x00abcd\x01\x01f\x04\x00\x00\x00!", api.ErrForm)
	refuses(t, "\x03app\x00\x00\x04\x00abcd\x01\x01f\x04\x00\x00", api.ErrForm)
	// Bytes that are not there, then what would be too many exports if they were passed over.
	refuses(t, "\x03app\x00\x00\xff\xff\x07"+strings.Repeat("\x00\x00\x00", 7)+"\x00\x00", api.ErrForm)
}

func TestB2DecodeTellsWhatCheckSays(t *testing.T) {
	const head = "\x03app\x00\x00\x04\x00abcd"
	for _, c := range []struct {
		s    string
		want api.Errno
	}{
		{"\x00\x00\x00\x04\x00abcd\x00\x00\x00", api.ErrForm},
		{"\x03App\x00\x00\x04\x00abcd\x00\x00\x00", api.ErrForm},
		{"\x06kernel\x00\x00\x04\x00abcd\x00\x00\x00", api.ErrForm},
		{"\x0babcdefghijk\x00\x00\x04\x00abcd\x00\x00\x00", api.ErrForm},
		{"\x03app\x00\x00\x00\x00\x00\x00\x00", api.ErrForm},
		{"\x03app\x00\x00\x03\x00abc\x00\x00\x00", api.ErrForm},
		{"\x03app\x00\x00\x04\x01" + strings.Repeat("x", 260) + "\x00\x00\x00", api.ErrMany},
		{"\x03app\x00\x00\xff\xff" + strings.Repeat("x", 65535) + "\x00\x00\x00", api.ErrMany},
		{head + "\x07" + strings.Repeat("\x00\x00\x00", 7) + "\x00\x00", api.ErrMany},
		{head + "\xff" + strings.Repeat("\x01f\x00\x00", 255) + "\x00\x00", api.ErrMany},
		{head + "\x00\x07" + strings.Repeat("\x01f\x01g\x00\x00", 7) + "\x00", api.ErrMany},
		{head + "\x00\x00\x0d" + strings.Repeat("\x00\x00\x00\x00\x00\x00", 13), api.ErrMany},
		{head + "\x01\x00\x00\x00\x00\x00", api.ErrForm},
		{head + "\x02\x01f\x00\x00\x01f\x01\x00\x00\x00", api.ErrTwice},
		{head + "\x01\x01f\x00\x01\x00\x00", api.ErrRange},
		{head + "\x00\x01\x01F\x01g\x00\x00\x00", api.ErrForm},
		{head + "\x00\x02\x01f\x01g\x00\x00\x01f\x01g\x01\x01\x00", api.ErrTwice},
		{head + "\x00\x00\x01\x00\x00\x00\x00\x00\x00", api.ErrKind},
		{head + "\x00\x00\x01\x01\x00\x00\x01\x00\x00", api.ErrRange},
		{head + "\x00\x00\x01\x01\x01\x00\x00\x00\x00", api.ErrRange},
		{head + "\x00\x00\x02\x03\x00\x00\x00\x00\x00\x03\x01\x00\x00\x00\x00", api.ErrState},
	} {
		refuses(t, c.s, c.want)
	}
}

func TestB3WhatIsEncodedIsDecodedAsItWas(t *testing.T) {
	d := draw(1)
	for range 2000 {
		m := d.module()
		s, e := module.Encode(m)
		if e != api.OK {
			t.Fatalf("Encode(%v): %d", m, e)
		}
		if back, e := module.Decode(s); !same(back, m) || e != api.OK {
			t.Fatalf("Decode of Encode(%v) = %v, %d", m, back, e)
		}
	}
}

func TestB3NothingElseIsDecoded(t *testing.T) {
	s, _ := module.Encode(sample())
	for i := range len(s) {
		for c := range 256 {
			decodesOnlyWhatIsEncoded(t, s[:i]+string([]byte{byte(c)})+s[i+1:])
		}
		decodesOnlyWhatIsEncoded(t, s[:i]+s[i+1:])
		decodesOnlyWhatIsEncoded(t, s[:i]+s[i:i+1]+s[i:])
	}
	d := draw(2)
	for range 5000 {
		s, _ := module.Encode(d.module())
		b := []byte(s)
		for range 1 + d.below(3) {
			b[d.below(len(b))] = byte(d.below(256))
		}
		decodesOnlyWhatIsEncoded(t, string(b))
	}
}

// decodesOnlyWhatIsEncoded: bytes of a module are told by Encode too; of others nothing is told.
func decodesOnlyWhatIsEncoded(t *testing.T, s string) {
	t.Helper()
	m, e := module.Decode(s)
	if e != api.OK {
		if !same(m, api.Module{}) {
			t.Fatalf("Decode(%q) = %v beside error %d", s, m, e)
		}
		return
	}
	if back, e := module.Encode(m); back != s || e != api.OK {
		t.Fatalf("Encode of Decode(%q) = %q, %d", s, back, e)
	}
}

// roomy is the sample, with spare room behind its lists in which something stands.
func roomy() api.Module {
	m := sample()
	m.Exports = append(m.Exports, api.Export{Name: "spare", At: 9})[:3]
	m.Imports = append(m.Imports, api.Import{Module: "spare", Name: "room"})[:3]
	m.Patches = append(m.Patches, api.Patch{Kind: 9, At: 9, Symbol: 9, Add: 9})[:5]
	return m
}

func TestP2WhatIsHandedInIsOnlyRead(t *testing.T) {
	m := roomy()
	module.Check(m)
	s, _ := module.Encode(m)
	was := roomy()
	if !same(m, was) || m.Exports[:4][3] != was.Exports[:4][3] || m.Imports[:4][3] != was.Imports[:4][3] || m.Patches[:6][5] != was.Patches[:6][5] {
		t.Errorf("what was handed in is %v now", m)
	}
	m.Exports[0].Name, m.Imports[0].Name, m.Patches[0].Kind = "other", "other", api.PatchCall
	if back, e := module.Decode(s); !same(back, was) || e != api.OK {
		t.Errorf("a later change is seen: %v, %d", back, e)
	}
}

func TestP2AnswersAreNewMemory(t *testing.T) {
	s, _ := module.Encode(sample())
	a, _ := module.Decode(s)
	b, _ := module.Decode(s)
	for i := range a.Exports {
		a.Exports[i] = api.Export{}
	}
	for i := range a.Imports {
		a.Imports[i] = api.Import{}
	}
	for i := range a.Patches {
		a.Patches[i] = api.Patch{}
	}
	if !same(b, sample()) {
		t.Errorf("two answers share memory: %v", b)
	}
	if c, e := module.Decode(s); !same(c, sample()) || e != api.OK {
		t.Errorf("an answer that is changed is seen later: %v, %d", c, e)
	}
}

func TestP2EmptyListsNilOrNot(t *testing.T) {
	m := api.Module{Name: "a", Text: "wxyz"}
	n := m
	n.Exports, n.Imports, n.Patches = []api.Export{}, []api.Import{}, []api.Patch{}
	a, e := module.Encode(m)
	b, f := module.Encode(n)
	if a != b || e != api.OK || f != api.OK || module.Check(m) != api.OK || module.Check(n) != api.OK {
		t.Errorf("Encode = %q, %d and %q, %d", a, e, b, f)
	}
}

func TestP3AnswersAreTheSameEachTime(t *testing.T) {
	var first []string
	for round := range 3 {
		d := draw(3)
		var told []string
		for range 200 {
			s, _ := module.Encode(d.module())
			_, e := module.Decode(s[d.below(len(s)):])
			told = append(told, fmt.Sprint(s, e, module.Check(api.Module{Name: d.name()})))
		}
		if round == 0 {
			first = told
		}
		if !slices.Equal(told, first) {
			t.Error("answers are other when asked anew")
		}
	}
}

func TestP1NothingPanicsWhateverIsHandedIn(t *testing.T) {
	d := draw(4)
	for range 20000 {
		b := make([]byte, d.below(60))
		for i := range b {
			b[i] = byte(d.below(8))
		}
		decodesOnlyWhatIsEncoded(t, string(b))
	}
	for _, m := range []api.Module{{}, {Name: "a"}, {Name: strings.Repeat("a", 1<<20)}, {Name: "a", Text: strings.Repeat("abcd", 1<<20)}, {Name: "a", Text: "abcd", Exports: make([]api.Export, 1<<20)}, {Name: "a", Text: "abcd", Patches: make([]api.Patch, 12)}} {
		s, e := module.Encode(m)
		if e == api.OK || s != "" || module.Check(m) != e {
			t.Errorf("Encode = %q, %d; Check = %d", s, e, module.Check(m))
		}
	}
}
