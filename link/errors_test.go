package link_test

import (
	"fmt"
	"math"
	"slices"
	"strings"
	"testing"

	"shipfitter/api"
	"shipfitter/link"
)

// fault is one change of the sample, and what is told of it.
type fault struct {
	what   string
	want   api.Errno
	change func(w *world)
}

// placeFaults of the kernel and of what is placed, in the order in which G1 names them.
func placeFaults() []fault {
	return []fault{
		{"the kernel's version", api.ErrRange, func(w *world) { w.k.Minor = 256 }},
		{"the kernel's exports are many", api.ErrMany, func(w *world) { w.k.Exports = append(w.k.Exports, make([]api.Export, 7)...) }},
		{"the kernel's first export", api.ErrForm, func(w *world) { w.k.Exports[0].Name = "" }},
		{"the kernel's second export", api.ErrRange, func(w *world) { w.k.Exports[1].At = 4096 }},
		{"many are placed", api.ErrMany, func(w *world) { w.l = append(w.l, make([]api.Placed, 6)...) }},
		{"the first one's name", api.ErrForm, func(w *world) { w.l[0].Module.Name = "kernel" }},
		{"the second one's place", api.ErrRange, func(w *world) { w.l[1].First = 15 }},
		{"the third one's patch", api.ErrKind, func(w *world) { w.l[2].Module.Patches[0].Kind = 6 }},
		{"the second one in the way", api.ErrState, func(w *world) { w.l[0].First = 4 }},
		{"two of one name", api.ErrTwice, func(w *world) { w.l[2].Module.Name = "lib" }},
	}
}

// linkFaults of app, behind those of what is placed.
func linkFaults() []fault {
	return []fault{
		{"no such module", api.ErrNone, func(w *world) { w.l[0].Module.Imports[0].Module = "none" }},
		{"another version", api.ErrState, func(w *world) { w.l[0].Module.Imports[1].Minor = 3 }},
		{"no such export", api.ErrNone, func(w *world) { w.l[0].Module.Imports[1].Name = "none" }},
		{"an odd call", api.ErrState, func(w *world) { w.l[0].Module.Patches[4].Add++ }},
	}
}

// otherFaults of lib and of end, behind those of app.
func otherFaults() []fault {
	return []fault{
		{"lib's import", api.ErrNone, func(w *world) { w.l[1].Module.Imports[0].Name = "none" }},
		{"lib's odd call", api.ErrState, func(w *world) { w.l[1].Module.Patches[0].Add++ }},
		{"end's odd call", api.ErrState, func(w *world) { w.l[2].Module.Patches[0].Add++ }},
	}
}

// eachFault tells of each fault by itself, and beside each one that is named behind it.
func eachFault(all []fault, tell func(what string, want api.Errno, w world)) {
	for i, first := range all {
		tell(first.what, first.want, changed(first.change))
		for _, later := range all[i+1:] {
			tell(first.what+", "+later.what, first.want, changed(first.change, later.change))
			tell(later.what+", "+first.what, first.want, changed(later.change, first.change))
		}
	}
}

func TestG1ImageTheErrorThatIsNamedFirst(t *testing.T) {
	none := fault{"no such name", api.ErrNone, func(w *world) { w.name = "none" }}
	eachFault(slices.Concat(placeFaults(), []fault{none}, linkFaults()), func(what string, want api.Errno, w world) {
		t.Helper()
		image(t, what, w, "", want)
	})
}

func TestG1AreaTheErrorThatIsNamedFirst(t *testing.T) {
	eachFault(slices.Concat(placeFaults(), linkFaults(), otherFaults()), func(what string, want api.Errno, w world) {
		t.Helper()
		area(t, what, w, "", want)
	})
}

func TestG1ImageAsksThatModuleAlone(t *testing.T) {
	for _, f := range otherFaults() {
		image(t, f.what, changed(f.change), appImage, api.OK)
	}
	for _, f := range linkFaults() {
		image(t, f.what, changed(f.change, func(w *world) { w.name = "lib" }), libImage, api.OK)
		image(t, f.what, changed(f.change, func(w *world) { w.name = "end" }), endImage, api.OK)
	}
	image(t, "lib's import", changed(otherFaults()[0].change, func(w *world) { w.name = "lib" }), "", api.ErrNone)
	image(t, "lib's odd call", changed(otherFaults()[1].change, func(w *world) { w.name = "lib" }), "", api.ErrState)
	image(t, "end's odd call", changed(otherFaults()[2].change, func(w *world) { w.name = "end" }), "", api.ErrState)
}

func TestG1AreaOneByOne(t *testing.T) {
	odd := patched(at(0, 8, "odd"), nil, api.Patch{Kind: api.PatchCall, At: 1, Symbol: -1})
	lost := patched(at(1, 8, "lost"), []string{"none"})
	area(t, "a patch ahead of an import", world{l: []api.Placed{odd, lost}}, "", api.ErrState)
	odd.First, lost.First = 1, 0
	area(t, "an import ahead of a patch", world{l: []api.Placed{lost, odd}}, "", api.ErrNone)
	two := patched(at(3, 8, "two"), []string{"none"}, odd.Module.Patches...)
	area(t, "of one an import ahead of a patch", world{l: []api.Placed{at(0, 4, "a"), two}}, "", api.ErrNone)
	image(t, "of one an import ahead of a patch", world{l: []api.Placed{at(0, 4, "a"), two}, name: "two"}, "", api.ErrNone)
	area(t, "two of one name are told ahead of an import", world{l: []api.Placed{lost, at(1, 4, "a"), at(2, 4, "a")}}, "", api.ErrTwice)
	area(t, "one in the way is told ahead of two of one name", world{l: []api.Placed{at(1, 4, "a"), at(0, 4, "a")}}, "", api.ErrState)
}

func TestG1ImageNames(t *testing.T) {
	w := sample()
	for _, name := range []string{"none", "kernel", "", "ap", "appp", "APP", "f", "app\x00", strings.Repeat("a", 1<<16)} {
		w.name = name
		image(t, "no such name", w, "", api.ErrNone)
		image(t, "nothing placed", world{name: name}, "", api.ErrNone)
		image(t, "two of one name", world{l: []api.Placed{at(0, 4, "a"), at(1, 4, "a")}, name: name}, "", api.ErrTwice)
	}
}

func TestG1Kernels(t *testing.T) {
	for _, n := range []int{math.MinInt, -1, 0, 255, 256, math.MaxInt} {
		e, f := api.OK, api.ErrNone
		if n < 0 || n > 255 {
			e, f = api.ErrRange, api.ErrRange
		}
		for _, k := range []api.Kernel{{Major: n}, {Minor: n}} {
			want := blank(1024)
			if e != api.OK {
				want = ""
			}
			area(t, fmt.Sprint("kernel ", k), world{k: k}, want, e)
			image(t, fmt.Sprint("kernel ", k), world{k: k, name: "a"}, "", f)
		}
	}
	var k api.Kernel
	for n := range 12 {
		want, e := blank(1024), api.OK
		if n > 8 {
			want, e = "", api.ErrMany
		}
		area(t, fmt.Sprint(n, " exports"), world{k: k}, want, e)
		k.Exports = append(k.Exports, api.Export{Name: fmt.Sprint("f", n), At: 4095})
	}
	both(t, "an export twice", world{k: api.Kernel{Exports: []api.Export{{Name: "f"}, {Name: "f"}}}}, api.ErrTwice)
}

func TestG1Places(t *testing.T) {
	for size := 1; size <= 4; size++ {
		for _, bytes := range []int{64*size - 60, 64*size - 4, 64 * size} {
			for _, first := range []int{math.MinInt, -1, 0, 1, 16 - size, 17 - size, 16, math.MaxInt} {
				p := at(first, bytes, "a")
				w := world{l: []api.Placed{p}, name: "a"}
				what := fmt.Sprint(bytes, " bytes in sector ", first)
				if first < 0 || first > 16-size {
					both(t, what, w, api.ErrRange)
					continue
				}
				lies := p.Module.Text + blank(64*size-bytes)
				image(t, what, w, lies, api.OK)
				area(t, what, w, blank(64*first)+lies+blank(1024-64*first-64*size), api.OK)
			}
		}
	}
	for _, bytes := range []int{0, 1, 2, 3, 5, 6, 63, 65, 254, 255} {
		both(t, fmt.Sprint(bytes, " bytes"), world{l: []api.Placed{at(0, bytes, "a")}, name: "a"}, api.ErrForm)
	}
	both(t, "260 bytes", world{l: []api.Placed{at(0, 260, "a")}, name: "a"}, api.ErrMany)
}

func TestG1HowManyThereMayBe(t *testing.T) {
	area(t, "none", world{}, blank(1024), api.OK)
	area(t, "none", world{l: []api.Placed{}}, blank(1024), api.OK)
	var l []api.Placed
	want := ""
	for n := range 12 {
		name := fmt.Sprint("m", n)
		l = append(l, at(n, 64, name))
		want += strings.Repeat("wxyz", 16)
		w := world{l: l, name: name}
		if n >= 8 {
			both(t, name, w, api.ErrMany)
			continue
		}
		area(t, name, w, want+blank(1024-len(want)), api.OK)
		image(t, name, w, strings.Repeat("wxyz", 16), api.OK)
	}
}

func TestG1OneBehindTheOther(t *testing.T) {
	for first := range 13 {
		l := []api.Placed{at(4, 132, "a"), at(first, 256, "b")}
		if first < 7 {
			both(t, fmt.Sprint("in sector ", first), world{l: l, name: "b"}, api.ErrState)
			continue
		}
		lies := blank(256) + l[0].Module.Text + blank(60+64*(first-7)) + l[1].Module.Text + blank(64*(12-first))
		area(t, fmt.Sprint("in sector ", first), world{l: l}, lies, api.OK)
	}
}

func TestP1NothingPanicsWhateverIsHandedIn(t *testing.T) {
	lists := [][]api.Placed{make([]api.Placed, 1), make([]api.Placed, 8), make([]api.Placed, 1<<16), {{First: math.MinInt}}, {at(0, 4, "a"), {}},
		{patched(at(0, 4, "a"), nil, api.Patch{Kind: 1, Symbol: 0})}, {patched(at(0, 4, "a"), nil, api.Patch{Kind: 1, Symbol: math.MinInt})}, {patched(at(0, 4, "a"), nil, api.Patch{Kind: 1, At: math.MaxInt})}}
	for _, k := range []api.Kernel{{}, {Major: -1}, {Exports: make([]api.Export, 1)}, {Exports: make([]api.Export, 1<<16)}} {
		for _, l := range lists {
			for _, name := range []string{"", "a", "kernel", "\xff\x00"} {
				a, e := link.Image(k, l, name)
				b, f := link.Area(k, l)
				if a != "" || b != "" || e == api.OK || f == api.OK {
					t.Errorf("Image = %q, %d; Area = %q, %d", a, e, b, f)
				}
			}
		}
	}
}
