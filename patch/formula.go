package patch

import (
	"slices"

	"shipfitter/api"
)

// formula of a kind of patches: what stands there, and whether it may, by the symbol's address with what is added, and the address of the place.
type formula struct {
	kind  int
	value func(sum, place int) (n int, fits bool)
}

func formulas() []formula {
	return []formula{
		{api.PatchWord, func(sum, _ int) (int, bool) { return sum, true }},
		{api.PatchHere, func(sum, place int) (int, bool) { return sum - place, true }},
		{api.PatchHigh, func(sum, _ int) (int, bool) { return sum >> 16, true }},
		{api.PatchLow, func(sum, _ int) (int, bool) { return sum & 0xffff, true }},
		{api.PatchCall, func(sum, place int) (int, bool) { return half(sum - place) }},
	}
}

// formulaOf a kind that there is.
func formulaOf(kind int) formula {
	l := formulas()
	return l[slices.IndexFunc(l, func(f formula) bool { return f.kind == kind })]
}

// half of how far a call goes, if it is even and fits.
func half(far int) (int, bool) {
	n := far / 2
	return n, far%2 == 0 && n >= -callEnd && n < callEnd
}
