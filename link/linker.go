package link

import (
	"strings"

	"shipfitter/api"
	"shipfitter/patch"
	"shipfitter/placed"
	"shipfitter/region"
	"shipfitter/resolve"
)

// blank is the byte that stands where no module's bytes are.
const blank = "\xff"

// linker links a module where it is placed.
type linker struct {
	api.Placed
	imports []int // their addresses, in order
}

// image of one of the placed modules, of which nothing else is wrong but maybe what it asks for, and its patches.
func image(k api.Kernel, l []api.Placed, p api.Placed) (string, api.Errno) {
	imports, e := resolve.All(k, l, p.Module)
	if e != api.OK {
		return "", e
	}
	return linker{p, imports}.image()
}

func (l linker) image() (string, api.Errno) {
	many, e := region.Size(l.Module)
	if e != api.OK {
		return "", e
	}
	s, e := l.patched()
	if e != api.OK {
		return "", e
	}
	return filled(s, many), api.OK
}

// patched is the module's text with all its patches.
func (l linker) patched() (string, api.Errno) {
	s, begin := l.Module.Text, placed.Address(l.First)
	for _, p := range l.Module.Patches {
		symbol := begin
		if p.Symbol >= 0 {
			symbol = l.imports[p.Symbol]
		}
		var e api.Errno
		if s, e = patch.Apply(s, p, symbol, begin); e != api.OK {
			return "", e
		}
	}
	return s, api.OK
}

// filled are bytes, which are no more than so many sectors, with blank ones behind them up to there.
func filled(s string, sectors int) string {
	return s + strings.Repeat(blank, sectors*api.SectorSize-len(s))
}
