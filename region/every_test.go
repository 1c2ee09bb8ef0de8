package region_test

import (
	"fmt"
	"math/rand"
	"slices"
	"testing"

	"shipfitter/api"
	"shipfitter/region"
)

// picture of the sectors: of each whether a module is in it.
type picture [api.Sectors]bool

// pictured are all places of modules, sector by sector.
func pictured(l []api.Placed) picture {
	var p picture
	for _, x := range l {
		for i := range len(x.Module.Text) {
			p[x.First+i/64] = true
		}
	}
	return p
}

// runs of a picture, sector by sector.
func (p picture) runs() []api.Run {
	var l []api.Run
	for i, taken := range p {
		switch {
		case taken:
		case i > 0 && !p[i-1]:
			l[len(l)-1].Many++
		default:
			l = append(l, run(i, 1))
		}
	}
	return l
}

// room is the first sector from which on so many are free; -1, if there is none.
func (p picture) room(many int) int {
	for i := 0; i+many <= len(p); i++ {
		if !slices.Contains(p[i:i+many], true) {
			return i
		}
	}
	return -1
}

// drawn is a list of modules one behind the other.
func drawn(r *rand.Rand) []api.Placed {
	var l []api.Placed
	end := 0
	for len(l) < api.MaxModules {
		x := at(end+r.Intn(4)*r.Intn(2), 4+4*r.Intn(64))
		end = x.First + (len(x.Module.Text)+63)/64
		if end > api.Sectors {
			break
		}
		l = append(l, x)
	}
	return l[:r.Intn(len(l)+1)]
}

func TestF1SomeLists(t *testing.T) {
	r := rand.New(rand.NewSource(6))
	for range 3000 {
		l := drawn(r)
		p := pictured(l)
		free(t, fmt.Sprint(p), l, api.OK, p.runs()...)
		for many := 1; many <= api.Sectors; many++ {
			want, e := p.room(many), api.OK
			if want < 0 {
				want, e = 0, api.ErrSpace
			}
			first(t, fmt.Sprint(p), world{l, many}, want, e)
		}
	}
}

func TestF2WhatIsPlacedThereIsInNobodysWay(t *testing.T) {
	r := rand.New(rand.NewSource(8))
	for range 3000 {
		l := drawn(r)
		if len(l) == api.MaxModules {
			continue
		}
		m := mod("new", 4+4*r.Intn(64))
		size, _ := region.Size(m)
		sector, e := region.First(l, size)
		if e != api.OK {
			continue
		}
		behind := slices.IndexFunc(l, func(p api.Placed) bool { return p.First > sector })
		if behind < 0 {
			behind = len(l)
		}
		more := slices.Insert(slices.Clone(l), behind, api.Placed{Module: m, First: sector})
		was, is := pictured(l), pictured(more)
		free(t, "with one more", more, api.OK, is.runs()...)
		for i := range is {
			if in := i >= sector && i < sector+size; in && was[i] || is[i] != (was[i] || in) {
				t.Fatalf("%d sectors from %d on: %v, then %v", size, sector, was, is)
			}
		}
	}
}
