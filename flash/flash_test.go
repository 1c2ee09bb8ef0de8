package flash_test

import (
	"fmt"
	"math"
	"strings"
	"testing"

	"shipfitter/api"
	"shipfitter/flash"
)

func TestK1New(t *testing.T) {
	for blocks := 1; blocks <= 32; blocks++ {
		f, e := flash.New(blocks)
		is(t, fmt.Sprint("New ", blocks), f, e, erased(blocks*128), api.OK)
	}
	for _, blocks := range []int{math.MinInt, -32, -1, 0, 33, 34, 1 << 31, math.MaxInt} {
		f, e := flash.New(blocks)
		is(t, fmt.Sprint("New ", blocks), f, e, "", api.ErrRange)
	}
}

func checks(t *testing.T, what string, f api.Flash, want api.Errno) {
	t.Helper()
	if e := flash.Check(f); e != want {
		t.Errorf("%s: Check = %d; must be %d", what, e, want)
	}
}

func TestK1Check(t *testing.T) {
	for blocks := 1; blocks <= 32; blocks++ {
		checks(t, fmt.Sprint(blocks, " blocks"), of(various(blocks)), api.OK)
		for at := range blocks {
			for _, many := range []int{0, 1, 127, 129, 256} {
				f := of(various(blocks))
				f.Blocks[at] = strings.Repeat("x", many)
				checks(t, fmt.Sprintf("%d bytes in block %d of %d", many, at, blocks), f, api.ErrForm)
			}
		}
	}
	checks(t, "none", api.Flash{}, api.ErrRange)
	checks(t, "an empty list", api.Flash{Blocks: []string{}}, api.ErrRange)
	checks(t, "33", of(various(33)), api.ErrRange)
	checks(t, "33 of no bytes", api.Flash{Blocks: make([]string, 33)}, api.ErrRange)
	checks(t, "very many", api.Flash{Blocks: make([]string, 1<<16)}, api.ErrRange)
	checks(t, "32 of no bytes", api.Flash{Blocks: make([]string, 32)}, api.ErrForm)
	checks(t, "as many bytes, otherwise dealt", api.Flash{Blocks: []string{strings.Repeat("x", 127), strings.Repeat("x", 129)}}, api.ErrForm)
}

func reads(t *testing.T, f api.Flash, at, many int, s string, want api.Errno) {
	t.Helper()
	if got, e := flash.Read(f, at, many); got != s || e != want {
		t.Fatalf("Read %d, %d = %q, %d; must be %q, %d", at, many, got, e, s, want)
	}
}

func TestK1Read(t *testing.T) {
	for _, blocks := range []int{1, 2, 3, 32} {
		all := various(blocks)
		n := len(all)
		for _, at := range []int{math.MinInt, -n, -1, 0, 1, 127, 128, 129, n - 1, n, n + 1, math.MaxInt} {
			for _, many := range []int{math.MinInt, -n, -1, 0, 1, 2, 127, 128, 129, n - 128, n - 1, n, n + 1, math.MaxInt - 1, math.MaxInt} {
				if at < 0 || many < 0 || at > n || many > n || at+many > n {
					reads(t, of(all), at, many, "", api.ErrRange)
				} else {
					reads(t, of(all), at, many, all[at:at+many], api.OK)
				}
			}
		}
	}
}

func TestK1ReadTellsCheckFirst(t *testing.T) {
	for _, c := range [][2]int{{0, 0}, {-1, 0}, {0, -1}, {math.MaxInt, math.MaxInt}} {
		reads(t, api.Flash{}, c[0], c[1], "", api.ErrRange)
		reads(t, of(various(33)), c[0], c[1], "", api.ErrRange)
		reads(t, api.Flash{Blocks: []string{erased(128), "x"}}, c[0], c[1], "", api.ErrForm)
	}
}

func TestK1ProgramEachByteByEachValue(t *testing.T) {
	all := various(2)
	for was := range 256 {
		before := with(all, 130, byte(was))
		for value := range 256 {
			does(t, before, with(all, 130, byte(was&value)), api.OK, program(130, value))
		}
	}
}

func TestK1PlacesOfPrograms(t *testing.T) {
	for _, blocks := range []int{1, 2, 32} {
		all := erased(blocks * 128)
		for _, at := range []int{0, 1, 127, len(all) - 128, len(all) - 1} {
			for _, value := range []int{0, 1, 85, 254, 255} {
				does(t, all, with(all, at, byte(value)), api.OK, program(at, value))
			}
		}
		for _, at := range []int{math.MinInt, -1, len(all), len(all) + 1, math.MaxInt} {
			refused(t, of(all), program(at, 0), api.ErrRange)
		}
		for _, value := range []int{math.MinInt, -256, -1, 256, 257, math.MaxInt} {
			refused(t, of(all), program(0, value), api.ErrRange)
		}
	}
}

func TestK1Erase(t *testing.T) {
	for _, blocks := range []int{1, 2, 3, 32} {
		all := various(blocks)
		for at := range blocks {
			does(t, all, all[:at*128]+erased(128)+all[at*128+128:], api.OK, erase(at))
		}
		for _, at := range []int{math.MinInt, -1, blocks, blocks + 1, blocks * 128, math.MaxInt} {
			refused(t, of(all), erase(at), api.ErrRange)
		}
		for _, value := range []int{math.MinInt, -1, 1, 255, 256, math.MaxInt} {
			refused(t, of(all), api.Deed{Kind: api.DeedErase, Value: value}, api.ErrRange)
		}
	}
}

func TestK1DeedsOneByOne(t *testing.T) {
	all := various(2)
	does(t, all, all, api.OK)
	does(t, erased(256), with(with(erased(256), 3, 8), 255, 4), api.OK, program(3, 12), program(255, 4), program(3, 10))
	does(t, all, erased(128)+all[128:], api.OK, program(3, 0), program(9, 0), erase(0))
	does(t, all, with(erased(128), 3, 7)+all[128:], api.OK, erase(0), program(3, 7))
	does(t, all, with(erased(256), 200, 1), api.OK, erase(1), erase(0), program(200, 1), program(200, 255))
	var l []api.Deed
	for i := range 256 {
		l = append(l, program(i, 0))
	}
	does(t, all, strings.Repeat("\x00", 256), api.OK, l...)
}

func TestK1NoSuchKind(t *testing.T) {
	for _, kind := range []int{math.MinInt, -1, 0, 3, 4, 257, math.MaxInt} {
		for _, at := range []int{-1, 0, 1000} {
			for _, value := range []int{-1, 0, 1000} {
				refused(t, of(various(2)), api.Deed{Kind: kind, At: at, Value: value}, api.ErrKind)
			}
		}
	}
}

func TestK1TheFirstDeedOfWhichSomethingIsWrong(t *testing.T) {
	all := various(2)
	ranges := []api.Deed{program(-1, 0), program(256, 0), program(0, 256), program(0, -1), erase(-1), erase(2), {Kind: api.DeedErase, Value: 1}}
	for _, r := range ranges {
		does(t, all, "", api.ErrRange, program(0, 0), r)
		does(t, all, "", api.ErrRange, r, program(0, 0))
		does(t, all, "", api.ErrRange, r, api.Deed{})
		does(t, all, "", api.ErrRange, erase(0), r, api.Deed{Kind: 3})
		does(t, all, "", api.ErrKind, api.Deed{}, r)
		does(t, all, "", api.ErrKind, erase(0), api.Deed{Kind: 3}, r)
	}
}

func TestK1CheckIsToldAheadOfDeeds(t *testing.T) {
	short := of(various(2))
	short.Blocks[1] = short.Blocks[1][:127]
	for _, d := range []api.Deed{program(0, 0), erase(0), program(-1, 0), erase(9), {}, {Kind: 3, At: -1}} {
		refused(t, short, d, api.ErrForm)
		refused(t, api.Flash{}, d, api.ErrRange)
		refused(t, of(various(33)), d, api.ErrRange)
		refused(t, api.Flash{Blocks: make([]string, 33)}, d, api.ErrRange)
	}
	f, e := flash.Do(short, nil)
	is(t, "no deeds", f, e, "", api.ErrForm)
	f, e = flash.Do(api.Flash{}, nil)
	is(t, "no deeds, no blocks", f, e, "", api.ErrRange)
}

func TestP1NothingPanicsWhateverIsHandedIn(t *testing.T) {
	odd := []int{math.MinInt, math.MinInt + 1, -129, -1, 0, 1, 2, 3, 127, 128, 255, 256, 1 << 31, 1 << 32, 1 << 57, math.MaxInt / 128, math.MaxInt - 1, math.MaxInt}
	flashes := []api.Flash{{}, {Blocks: []string{""}}, {Blocks: make([]string, 33)}, of(various(1)), of(various(2))}
	for _, f := range flashes {
		for _, kind := range odd {
			for _, at := range odd {
				for _, value := range odd {
					d := api.Deed{Kind: kind, At: at, Value: value}
					g, e := flash.Do(f, []api.Deed{d})
					h, k := flash.Torn(f, d, "\x0f")
					if e != k || len(g.Blocks) != len(h.Blocks) || (e == api.OK) != (len(g.Blocks) > 0) {
						t.Fatalf("%v: Do tells %d, Torn %d; %d and %d blocks", d, e, k, len(g.Blocks), len(h.Blocks))
					}
				}
			}
		}
	}
}

func TestP2WhatIsHandedInIsOnlyReadAndNotKept(t *testing.T) {
	deeds := []api.Deed{program(1, 2), erase(1), program(200, 3), {Kind: 9}}
	f := of(various(3))
	spare := api.Flash{Blocks: f.Blocks[:2]}
	for what, do := range map[string]func() (api.Flash, api.Errno){
		"Do":         func() (api.Flash, api.Errno) { return flash.Do(spare, deeds[:3]) },
		"Do nothing": func() (api.Flash, api.Errno) { return flash.Do(spare, nil) },
		"Torn":       func() (api.Flash, api.Errno) { return flash.Torn(spare, deeds[1], "\x01") },
	} {
		first, e := do()
		second, _ := do()
		want := strings.Join(second.Blocks, "")
		is(t, what, first, e, want, api.OK)
		clear(first.Blocks[:cap(first.Blocks)])
		is(t, what+", a second answer", second, e, want, api.OK)
		is(t, what+", what was handed in", f, e, various(3), api.OK)
		f.Blocks[0], f.Blocks[1] = "", ""
		is(t, what+", behind a change", second, e, want, api.OK)
		copy(f.Blocks, of(various(3)).Blocks)
	}
	if fmt.Sprint(deeds) != "[{1 1 2} {2 1 0} {1 200 3} {9 0 0}]" {
		t.Errorf("the deeds are %v now", deeds)
	}
	one, _ := flash.New(2)
	clear(one.Blocks)
	two, e := flash.New(2)
	is(t, "New", two, e, erased(256), api.OK)
}

func TestP3AnswersAreTheSameEachTime(t *testing.T) {
	all := various(2)
	for range 20 {
		does(t, all, with(all, 9, all[9]&60), api.OK, program(9, 60))
		does(t, all, "", api.ErrKind, program(9, 60), api.Deed{})
		tears(t, all, erase(1), "\xff", with(all, 128, 255), api.OK)
		reads(t, of(all), 9, 2, all[9:11], api.OK)
	}
}
