package resolve

import (
	"slices"

	"shipfitter/api"
	"shipfitter/placed"
)

// target is what an import may mean: the kernel, or a module where it is placed.
type target struct {
	major, minor int
	begin        int // the address from which on its exports are told
	exports      []api.Export
}

// address of what an import names. Nothing is wrong with what is handed in.
func address(k api.Kernel, l []api.Placed, i api.Import) (int, api.Errno) {
	t, ok := meant(k, l, i.Module)
	if !ok {
		return 0, api.ErrNone
	}
	if t.major != i.Major || t.minor < i.Minor {
		return 0, api.ErrState
	}
	named, ok := first(t.exports, func(x api.Export) bool { return x.Name == i.Name })
	if !ok {
		return 0, api.ErrNone
	}
	return t.begin + named.At, api.OK
}

// meant is who has a name.
func meant(k api.Kernel, l []api.Placed, name string) (target, bool) {
	if name == api.KernelName {
		return target{major: k.Major, minor: k.Minor, exports: k.Exports}, true
	}
	p, ok := first(l, func(p api.Placed) bool { return p.Module.Name == name })
	if !ok {
		return target{}, false
	}
	return target{p.Module.Major, p.Module.Minor, placed.Address(p.First), p.Module.Exports}, true
}

// first of a list that is what is looked for.
func first[T any](l []T, is func(T) bool) (T, bool) {
	if i := slices.IndexFunc(l, is); i >= 0 {
		return l[i], true
	}
	var none T
	return none, false
}
