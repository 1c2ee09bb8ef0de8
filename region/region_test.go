package region_test

import (
	"fmt"
	"math"
	"reflect"
	"slices"
	"strings"
	"testing"

	"shipfitter/api"
	"shipfitter/region"
)

// faults of what is placed, in the order in which F1 names them.
func faults() []fault {
	return []fault{
		{"many", api.ErrMany, func(w *world) { w.l = append(w.l, make([]api.Placed, 5)...) }},
		{"the first one's name", api.ErrForm, func(w *world) { w.l[0].Module.Name = "kernel" }},
		{"the first one's place", api.ErrRange, func(w *world) { w.l[0].First = -1 }},
		{"the second one's exports", api.ErrTwice, func(w *world) { w.l[1].Module.Exports = append(w.l[1].Module.Exports, api.Export{Name: "f"}) }},
		{"the third one's place", api.ErrRange, func(w *world) { w.l[2].First = 16 }},
		{"the fourth one's patch", api.ErrKind, func(w *world) { w.l[3].Module.Patches[0].Kind = 0 }},
		{"the second one in the way", api.ErrState, func(w *world) { w.l[1].First = 0 }},
	}
}

// eachFault tells of each fault by itself, and beside each one that is named behind it.
func eachFault(all []fault, tell func(what string, want api.Errno, w world)) {
	for i, first := range all {
		tell(first.what, first.want, changed(first.change))
		for _, later := range all[i+1:] {
			tell(first.what+", "+later.what, first.want, changed(first.change, later.change))
			tell(later.what+", "+first.what, first.want, changed(later.change, first.change))
		}
	}
}

func TestF1FreeTheErrorThatIsNamedFirst(t *testing.T) {
	free(t, "sample", sample().l, api.OK, run(1, 2), run(4, 3), run(14, 2))
	eachFault(faults(), func(what string, want api.Errno, w world) {
		t.Helper()
		free(t, what, w.l, want)
	})
}

func TestF1FirstTheErrorThatIsNamedFirst(t *testing.T) {
	first(t, "sample", sample(), 4, api.OK)
	zero := fault{"none", api.ErrRange, func(w *world) { w.many = 0 }}
	space := fault{"no room", api.ErrSpace, func(w *world) { w.many = max(w.many, 4) }}
	eachFault(append(faults(), space), func(what string, want api.Errno, w world) {
		t.Helper()
		first(t, what, w, 0, want)
	})
	eachFault(append(faults(), zero), func(what string, want api.Errno, w world) {
		t.Helper()
		first(t, what, w, 0, want)
	})
}

func TestF1FirstHowMany(t *testing.T) {
	full := []api.Placed{at(0, 256), at(4, 256), at(8, 256), at(12, 256)}
	for _, many := range []int{math.MinInt, -17, -1, 0, 17, 18, math.MaxInt} {
		first(t, "nothing placed", world{nil, many}, 0, api.ErrRange)
		first(t, "no room", world{full, many}, 0, api.ErrRange)
		first(t, "one in the way", world{[]api.Placed{at(5, 4), at(5, 4)}, many}, 0, api.ErrState)
		first(t, "one outside", world{[]api.Placed{at(16, 4)}, many}, 0, api.ErrRange)
		first(t, "a wrong one", world{[]api.Placed{at(0, 6)}, many}, 0, api.ErrForm)
	}
	for many := 1; many <= 16; many++ {
		first(t, "nothing placed", world{nil, many}, 0, api.OK)
		first(t, "no room", world{full, many}, 0, api.ErrSpace)
		want, e := 1, api.OK
		if many > 15 {
			want, e = 0, api.ErrSpace
		}
		first(t, "one in sector 0", world{[]api.Placed{at(0, 64)}, many}, want, e)
	}
}

func TestF1FirstTheFirstRunThatHasSoMany(t *testing.T) {
	w := sample()
	for many, want := range map[int]int{1: 1, 2: 1, 3: 4} {
		first(t, "sample", world{w.l, many}, want, api.OK)
	}
	for _, many := range []int{4, 5, 16} {
		first(t, "sample", world{w.l, many}, 0, api.ErrSpace)
	}
	first(t, "a greater run is later", world{[]api.Placed{at(2, 4), at(15, 4)}, 2}, 0, api.OK)
	first(t, "the first one is too short", world{[]api.Placed{at(2, 4), at(15, 4)}, 3}, 3, api.OK)
	first(t, "the last sector", world{[]api.Placed{at(0, 256), at(4, 256), at(8, 256), at(12, 192)}, 1}, 15, api.OK)
}

func TestF1Size(t *testing.T) {
	for n := range 300 {
		want, e := (n+63)/64, api.OK
		switch {
		case n > 256:
			want, e = 0, api.ErrMany
		case n == 0 || n%4 != 0:
			want, e = 0, api.ErrForm
		}
		if got, f := region.Size(api.Module{Name: "a", Text: strings.Repeat("x", n)}); got != want || f != e {
			t.Errorf("Size of %d bytes = %d, %d; must be %d, %d", n, got, f, want, e)
		}
	}
	for bytes, want := range map[int]int{4: 1, 60: 1, 64: 1, 68: 2, 128: 2, 132: 3, 192: 3, 196: 4, 256: 4} {
		if got, f := region.Size(mod("a", bytes)); got != want || f != api.OK {
			t.Errorf("Size of %d bytes = %d, %d; must be %d", bytes, got, f, want)
		}
	}
}

func TestF1SizeOfWrongModules(t *testing.T) {
	for i, c := range []struct {
		want   api.Errno
		change func(m *api.Module)
	}{
		{api.ErrForm, func(m *api.Module) { m.Name = "kernel" }},
		{api.ErrRange, func(m *api.Module) { m.Minor = 256 }},
		{api.ErrMany, func(m *api.Module) { m.Imports = make([]api.Import, 7) }},
		{api.ErrTwice, func(m *api.Module) { m.Exports = append(m.Exports, m.Exports[0]) }},
		{api.ErrKind, func(m *api.Module) { m.Patches[0].Kind = 6 }},
		{api.ErrState, func(m *api.Module) { m.Patches = append(m.Patches, m.Patches[0]) }},
	} {
		m := mod("a", 64)
		c.change(&m)
		if got, f := region.Size(m); got != 0 || f != c.want {
			t.Errorf("%d: Size = %d, %d; must be 0, %d", i, got, f, c.want)
		}
		free(t, fmt.Sprint("wrong module ", i), []api.Placed{at(0, 4), {Module: m, First: 3}}, c.want)
		first(t, fmt.Sprint("wrong module ", i), world{[]api.Placed{at(0, 4), {Module: m, First: 3}}, 17}, 0, c.want)
	}
}

func TestF1FreePlaces(t *testing.T) {
	for size := 1; size <= 4; size++ {
		for _, bytes := range []int{64*size - 60, 64 * size} {
			for sector := -3; sector < 20; sector++ {
				what := fmt.Sprint(bytes, " bytes in sector ", sector)
				var runs []api.Run
				if sector > 0 {
					runs = append(runs, run(0, sector))
				}
				if sector+size < 16 {
					runs = append(runs, run(sector+size, 16-sector-size))
				}
				if sector < 0 || sector+size > 16 {
					free(t, what, []api.Placed{at(sector, bytes)}, api.ErrRange)
					continue
				}
				free(t, what, []api.Placed{at(sector, bytes)}, api.OK, runs...)
			}
			for _, sector := range []int{math.MinInt, math.MinInt + 1, math.MaxInt - 3, math.MaxInt} {
				free(t, "a place far away", []api.Placed{at(sector, bytes)}, api.ErrRange)
			}
		}
	}
}

func TestF1FreeModuleByModule(t *testing.T) {
	wrong := at(20, 6)
	free(t, "place ahead of a module", []api.Placed{at(-1, 4), wrong}, api.ErrRange)
	free(t, "module ahead of a place", []api.Placed{wrong, at(-1, 4)}, api.ErrForm)
	free(t, "module and place", []api.Placed{at(0, 4), wrong}, api.ErrForm)
	free(t, "one in the way ahead of a place", []api.Placed{at(5, 4), at(5, 4), at(16, 4)}, api.ErrRange)
	free(t, "one in the way ahead of a module", []api.Placed{at(5, 4), at(5, 4), wrong}, api.ErrForm)
}

func TestF1FreeOneBehindTheOther(t *testing.T) {
	for size := 1; size <= 4; size++ {
		for sector := range 13 {
			l := []api.Placed{at(4, 64*size), at(sector, 256)}
			what := fmt.Sprint(size, " sectors from 4 on, four from ", sector)
			if sector < 4+size {
				free(t, what, l, api.ErrState)
				continue
			}
			runs := []api.Run{run(0, 4), run(4+size, sector-4-size), run(sector+4, 12-sector)}
			free(t, what, l, api.OK, slices.DeleteFunc(runs, func(r api.Run) bool { return r.Many == 0 })...)
		}
	}
	free(t, "the last two", []api.Placed{at(0, 4), at(3, 4), at(9, 4), at(8, 4)}, api.ErrState)
	free(t, "behind the one ahead, not behind all", []api.Placed{at(9, 4), at(3, 4), at(5, 4)}, api.ErrState)
}

func TestF1HowManyThereMayBe(t *testing.T) {
	free(t, "none", nil, api.OK, run(0, 16))
	var l []api.Placed
	var gaps []api.Run
	for n := 1; n <= 8; n++ {
		sector := 2 * (n - 1)
		l = append(l, at(sector, 4))
		free(t, fmt.Sprint(n, " modules"), l, api.OK, append(slices.Clone(gaps), run(sector+1, 15-sector))...)
		gaps = append(gaps, run(sector+1, 1))
	}
	for range 10 {
		l = append(l, at(15, 4))
		free(t, "more modules", l, api.ErrMany)
	}
	free(t, "two of one name", []api.Placed{at(0, 4), at(1, 4)}, api.OK, run(2, 14))
}

func TestF1FreeNoRun(t *testing.T) {
	free(t, "all is full", []api.Placed{at(0, 256), at(4, 196), at(8, 200), at(12, 256)}, api.OK)
	free(t, "all is free", []api.Placed{}, api.OK, run(0, 16))
	free(t, "all is free", nil, api.OK, run(0, 16))
}

func TestP1NothingPanicsWhateverIsHandedIn(t *testing.T) {
	for _, l := range [][]api.Placed{make([]api.Placed, 1), make([]api.Placed, 8), make([]api.Placed, 1<<16), {{First: math.MinInt}}, {at(0, 4), {}}} {
		for _, many := range []int{math.MinInt, 0, 1, math.MaxInt} {
			r, e := region.Free(l)
			n, f := region.First(l, many)
			if len(r) > 0 || n != 0 || e == api.OK || f == api.OK {
				t.Errorf("%v, %d; %d, %d", r, e, n, f)
			}
		}
	}
	if n, e := region.Size(api.Module{}); n != 0 || e != api.ErrForm {
		t.Errorf("Size = %d, %d", n, e)
	}
}

func TestP2WhatIsHandedInIsOnlyRead(t *testing.T) {
	l, was := append(sample().l, at(2, 8)), append(sample().l, at(2, 8))
	a, _ := region.Free(l[:4])
	region.First(l[:4], 2)
	region.Size(l[2].Module)
	clear(a[:cap(a)])
	if !reflect.DeepEqual(l, was) {
		t.Errorf("what was handed in is %v now; it was %v", l, was)
	}
	free(t, "again", l[:4], api.OK, run(1, 2), run(4, 3), run(14, 2))
}

func TestP3AnswersAreTheSameEachTime(t *testing.T) {
	for range 20 {
		w := sample()
		free(t, "sample", w.l, api.OK, run(1, 2), run(4, 3), run(14, 2))
		first(t, "sample", w, 4, api.OK)
		w.l[2].First = 8
		free(t, "changed", w.l, api.ErrState)
	}
}
