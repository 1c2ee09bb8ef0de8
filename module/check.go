package module

import (
	"shipfitter/api"
	"shipfitter/rules"
)

func tooMany(m api.Module) bool {
	return len(m.Text) > api.MaxText || len(m.Exports) > api.MaxExports ||
		len(m.Imports) > api.MaxImports || len(m.Patches) > api.MaxPatches
}

// wrongPatches tells what is wrong with patches of a module of so many bytes and imports.
func wrongPatches(l []api.Patch, bytes, imports int) api.Errno {
	end := 0
	for _, p := range l {
		many := rules.Width(p.Kind)
		switch {
		case many == 0:
			return api.ErrKind
		case p.Symbol < -1 || p.Symbol >= imports || p.Add < 0 || p.Add > api.MaxAdd:
			return api.ErrRange
		case p.At < 0 || p.At > bytes-many:
			return api.ErrRange
		case p.At < end:
			return api.ErrState
		}
		end = p.At + many
	}
	return api.OK
}
