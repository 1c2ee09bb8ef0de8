package link_test

import (
	"fmt"
	"reflect"
	"strings"
	"testing"

	"shipfitter/api"
	"shipfitter/link"
)

// Images of the sample: app begins at 4160, lib at 4352, end at 5056; lib's f is at 4356, the kernel's f at 100 and its odd at 33.
var (
	appImage = "\x05\x11\x00\x00" + "a" + "\xde\xef\xff\xff" + "\x01\x00" + "d" + "\x47\x10" + strings.Repeat("cdab", 10) + "cda" + "\xd4\xf7\xff" + blank(4)
	libImage = strings.Repeat("efgh", 24) + "\x82\xf7\xffh" + blank(28)
	endImage = strings.Repeat("ijkl", 15) + "i" + "\x00\x00\x00"
)

func TestG1TheSample(t *testing.T) {
	w := sample()
	image(t, "sample", w, appImage, api.OK)
	w.name = "lib"
	image(t, "sample", w, libImage, api.OK)
	w.name = "end"
	image(t, "sample", w, endImage, api.OK)
	area(t, "sample", w, blank(64)+appImage+blank(128)+libImage+blank(9*64)+endImage, api.OK)
}

func TestG1TheDocumentsExample(t *testing.T) {
	lib := api.Module{Name: "lib", Major: 1, Minor: 2, Text: "12345678", Exports: []api.Export{{Name: "f", At: 4}}}
	app := api.Module{
		Name: "app", Text: "........",
		Imports: []api.Import{{Module: "lib", Name: "f", Major: 1, Minor: 1}},
		Patches: []api.Patch{{Kind: api.PatchWord, At: 0, Symbol: 0, Add: 1}},
	}
	w := world{l: []api.Placed{{Module: app, First: 1}, {Module: lib, First: 4}}, name: "app"}
	image(t, "as it is placed", w, "\x05\x11\x00\x00...."+blank(56), api.OK)
	w.l[0].First, w.l[1].First = 0, 1
	image(t, "packed", w, "\x45\x10\x00\x00...."+blank(56), api.OK)
	area(t, "packed", w, "\x45\x10\x00\x00...."+blank(56)+"12345678"+blank(56+14*64), api.OK)
}

// four are the bytes of a number, the lesser ones first.
func four(n int) string { return string([]byte{byte(n), byte(n >> 8), byte(n >> 16), byte(n >> 24)}) }

func TestG1EachKindInEachSector(t *testing.T) {
	for first := range 16 {
		begin := 4096 + 64*first
		for _, add := range []int{0, 1, 2, 4, 65534, 65535} {
			for kind, want := range map[int]string{
				api.PatchWord: four(begin + add),
				api.PatchHere: four(add - 8),
				api.PatchHigh: four((begin + add) >> 16)[:2] + "cd",
				api.PatchLow:  four(begin + add)[:2] + "cd",
				api.PatchCall: four((add - 8) / 2)[:3] + "d",
			} {
				p := patched(at(first, 16, "a"), nil, api.Patch{Kind: kind, At: 8, Symbol: -1, Add: add})
				p.Module.Text = "abcdabcdabcdabcd"
				w := world{l: []api.Placed{p}, name: "a"}
				what := fmt.Sprint("kind ", kind, ", ", add, " in sector ", first)
				if kind == api.PatchCall && add%2 == 1 {
					both(t, what, w, api.ErrState)
					continue
				}
				want := "abcdabcd" + want + "abcd" + blank(48)
				image(t, what, w, want, api.OK)
				area(t, what, w, blank(64*first)+want+blank(1024-64*first-64), api.OK)
			}
		}
	}
}

func TestG1TheLeastAndTheGreatestAddresses(t *testing.T) {
	word := func(add int) []api.Patch { return []api.Patch{{Kind: api.PatchWord, At: 60, Symbol: 0, Add: add}} }
	text := strings.Repeat("wxyz", 15)
	for _, address := range []int{0, 1, 4095} {
		k := api.Kernel{Major: 1, Exports: []api.Export{{Name: "f", At: address}}}
		w := world{k: k, l: []api.Placed{patched(at(15, 64, "a"), []string{"kernel"}, word(65535)...)}, name: "a"}
		image(t, fmt.Sprint("kernel's ", address), w, text+four(address+65535), api.OK)
	}
	for _, address := range []int{-1, 4096} {
		k := api.Kernel{Major: 1, Exports: []api.Export{{Name: "f", At: address}}}
		both(t, fmt.Sprint("kernel's ", address), world{k: k, l: []api.Placed{patched(at(15, 64, "a"), []string{"kernel"}, word(0)...)}, name: "a"}, api.ErrRange)
	}
	far := at(12, 256, "far")
	far.Module.Exports[0].At = 255
	w := world{l: []api.Placed{patched(at(0, 64, "a"), []string{"far"}, word(65535)...), far}, name: "a"}
	image(t, "the last byte of all", w, text+four(4096+1023+65535), api.OK)
	w.l[1].Module.Exports[0].At = 256
	both(t, "behind the last byte of all", w, api.ErrRange)
	w.l[1].Module.Exports[0].At = 255
	w.l[0].Module.Patches = word(65536)
	both(t, "more is added than may be", w, api.ErrRange)
	w.l[0].Module.Patches = []api.Patch{{Kind: api.PatchWord, At: 61, Symbol: 0}}
	both(t, "a patch that is not all within", w, api.ErrRange)
}

func TestG1WhichImport(t *testing.T) {
	asker := patched(at(5, 28, "a"), []string{"top", "low", "a", "mid", "kernel"})
	w := world{k: api.Kernel{Major: 1, Exports: []api.Export{{Name: "f", At: 77}}}, name: "a"}
	want := ""
	for i, address := range []int{4096 + 5*64, 4096 + 9*64, 4096, 4096 + 5*64, 4096 + 2*64, 77} {
		want += four(address)
		asker.Module.Patches = append(asker.Module.Patches, api.Patch{Kind: api.PatchWord, At: 4 * i, Symbol: i - 1})
		w.l = []api.Placed{at(0, 4, "low"), at(2, 4, "mid"), asker, at(9, 4, "top")}
		image(t, fmt.Sprint("up to import ", i-1), w, want+strings.Repeat("wxyz", 6-i)+blank(36), api.OK)
	}
	asker.Module.Patches[0].Symbol = 5
	both(t, "no such import", w, api.ErrRange)
	asker.Module.Patches[0].Symbol = -2
	both(t, "no such symbol", w, api.ErrRange)
}

func TestG1WhoNeedsItselfCanBeTold(t *testing.T) {
	word := api.Patch{Kind: api.PatchWord, At: 0, Symbol: 0, Add: 2}
	self := world{l: []api.Placed{patched(at(3, 4, "a"), []string{"a"}, word)}, name: "a"}
	image(t, "itself", self, four(4290)+blank(60), api.OK)
	area(t, "itself", self, blank(192)+four(4290)+blank(1024-196), api.OK)
	round := world{l: []api.Placed{patched(at(0, 4, "a"), []string{"b"}, word), patched(at(1, 4, "b"), []string{"a"}, word)}, name: "b"}
	image(t, "through another one", round, four(4098)+blank(60), api.OK)
	area(t, "through another one", round, four(4162)+blank(60)+four(4098)+blank(60+14*64), api.OK)
}

func TestP2WhatIsHandedInIsOnlyRead(t *testing.T) {
	w := changed(func(w *world) {
		w.k.Exports = append(w.k.Exports, api.Export{Name: "more"})
		w.l = append(w.l, at(9, 4, "more"))
	})
	was := copied(w)
	k, l := api.Kernel{Major: 1, Minor: 2, Exports: w.k.Exports[:2]}, w.l[:3]
	a, _ := link.Image(k, l, "app")
	b, _ := link.Area(k, l)
	if !reflect.DeepEqual(w, was) {
		t.Errorf("what was handed in is %v now; it was %v", w, was)
	}
	l[0].Module.Patches[0].Add, l[1].Module.Exports[1].At, k.Exports[1].At = 9, 8, 34
	if want := blank(64) + appImage + blank(128) + libImage + blank(9*64) + endImage; a != appImage || b != want {
		t.Errorf("a later change is seen: %q, %q", a, b)
	}
}

func TestP3AnswersAreTheSameEachTime(t *testing.T) {
	for range 20 {
		w := copied(sample())
		image(t, "sample", w, appImage, api.OK)
		w.l[0].Module.Patches[4].Add = 1
		both(t, "changed", w, api.ErrState)
	}
}
