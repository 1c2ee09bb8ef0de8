package module_test

import (
	"slices"
	"strings"

	"shipfitter/api"
)

// sample is a module of which nothing is wrong, with some of everything.
func sample() api.Module {
	return api.Module{
		Name: "app", Major: 1, Minor: 3, Text: strings.Repeat("abcd", 16),
		Exports: []api.Export{{Name: "f", At: 32}, {Name: "g", At: 63}, {Name: "h", At: 0}},
		Imports: []api.Import{{Module: "lib", Name: "f", Major: 1, Minor: 1}, {Module: "kernel", Name: "f", Major: 0, Minor: 255}, {Module: "lib", Name: "g", Major: 2, Minor: 0}},
		Patches: []api.Patch{{Kind: api.PatchWord, At: 0, Symbol: 0, Add: 1}, {Kind: api.PatchLow, At: 4, Symbol: -1, Add: 0}, {Kind: api.PatchCall, At: 8, Symbol: 2, Add: 65535}, {Kind: api.PatchHigh, At: 20, Symbol: 1}, {Kind: api.PatchHere, At: 60, Symbol: 1}},
	}
}

// changed is the sample with changes.
func changed(changes ...func(m *api.Module)) api.Module {
	m := sample()
	for _, change := range changes {
		change(&m)
	}
	return m
}

// same tells whether two modules are the same, an empty list being one whether nil or not.
func same(a, b api.Module) bool {
	return a.Name == b.Name && a.Major == b.Major && a.Minor == b.Minor && a.Text == b.Text &&
		slices.Equal(a.Exports, b.Exports) && slices.Equal(a.Imports, b.Imports) && slices.Equal(a.Patches, b.Patches)
}

// draw: numbers for long runs; the same each time.
type draw uint64

func (d *draw) below(n int) int {
	*d = *d*6364136223846793005 + 1442695040888963407
	return int(uint64(*d) >> 33 % uint64(n))
}

func (d *draw) name() string {
	b := []byte{byte('a' + d.below(26))}
	for range d.below(api.MaxName) {
		b = append(b, "abcdefghijklmnopqrstuvwxyz0123456789_"[d.below(37)])
	}
	if string(b) == api.KernelName {
		return "other"
	}
	return string(b)
}

// module of which nothing is wrong.
func (d *draw) module() api.Module {
	m := api.Module{Name: d.name(), Major: d.below(256), Minor: d.below(256)}
	b := make([]byte, 4*(1+d.below(api.MaxText/4)))
	for i := range b {
		b[i] = byte(d.below(256))
	}
	m.Text = string(b)
	for i := range d.below(api.MaxExports + 1) {
		m.Exports = append(m.Exports, api.Export{Name: string(rune('a'+i)) + d.name()[1:], At: d.below(len(b))})
	}
	for i := range d.below(api.MaxImports + 1) {
		m.Imports = append(m.Imports, api.Import{Module: d.name(), Name: string(rune('a'+i)) + d.name()[1:], Major: d.below(256), Minor: d.below(256)})
	}
	end := 0
	for range d.below(api.MaxPatches + 1) {
		p := api.Patch{Kind: 1 + d.below(5), At: end + d.below(6), Symbol: d.below(len(m.Imports)+1) - 1, Add: d.below(api.MaxAdd + 1)}
		if end = p.At + widths[p.Kind]; end > len(b) {
			break
		}
		m.Patches = append(m.Patches, p)
	}
	return m
}

// widths of the kinds of patches.
var widths = [...]int{api.PatchWord: 4, api.PatchHere: 4, api.PatchHigh: 2, api.PatchLow: 2, api.PatchCall: 3}
