// Package placed: what more than one layer holds modules that are placed to, and asks of where they lie.
package placed

import (
	"shipfitter/api"
	"shipfitter/module"
)

// Wrong tells what is wrong with a list of them: with how many there are, then one by one with its module, then by what more is asked of it.
func Wrong(l []api.Placed, more ...func(p api.Placed) api.Errno) api.Errno {
	if len(l) > api.MaxModules {
		return api.ErrMany
	}
	for _, p := range l {
		if e := module.Check(p.Module); e != api.OK {
			return e
		}
		for _, wrong := range more {
			if e := wrong(p); e != api.OK {
				return e
			}
		}
	}
	return api.OK
}

// Address at which a sector begins.
func Address(sector int) int { return api.Base + sector*api.SectorSize }
