package module

import "shipfitter/api"

func isName(s string) bool {
	if len(s) < 1 || len(s) > api.MaxName || !isLetter(s[0]) {
		return false
	}
	for i := range len(s) {
		if c := s[i]; !isLetter(c) && !isDigit(c) && c != '_' {
			return false
		}
	}
	return true
}

func isLetter(c byte) bool { return c >= 'a' && c <= 'z' }

func isDigit(c byte) bool { return c >= '0' && c <= '9' }

func isVersion(major, minor int) bool {
	return major >= 0 && major <= api.MaxVersion && minor >= 0 && minor <= api.MaxVersion
}

func tooMany(m api.Module) bool {
	return len(m.Text) > api.MaxText || len(m.Exports) > api.MaxExports ||
		len(m.Imports) > api.MaxImports || len(m.Patches) > api.MaxPatches
}

// wrongExports tells what is wrong with exports of a module of so many bytes.
func wrongExports(l []api.Export, bytes int) api.Errno {
	met := map[string]int{}
	for i, x := range l {
		_, twice := met[x.Name]
		switch {
		case !isName(x.Name):
			return api.ErrForm
		case twice:
			return api.ErrTwice
		case x.At < 0 || x.At >= bytes:
			return api.ErrRange
		}
		met[x.Name] = i
	}
	return api.OK
}

// asked is what two imports may not both name.
type asked struct{ module, name string }

func wrongImports(l []api.Import) api.Errno {
	met := map[asked]int{}
	for i, x := range l {
		both := asked{x.Module, x.Name}
		_, twice := met[both]
		switch {
		case !isName(x.Module) || !isName(x.Name):
			return api.ErrForm
		case twice:
			return api.ErrTwice
		case !isVersion(x.Major, x.Minor):
			return api.ErrRange
		}
		met[both] = i
	}
	return api.OK
}

// wrongPatches tells what is wrong with patches of a module of so many bytes and imports.
func wrongPatches(l []api.Patch, bytes, imports int) api.Errno {
	end := 0
	for _, p := range l {
		many := patched(p.Kind)
		switch {
		case many == 0:
			return api.ErrKind
		case p.Symbol < -1 || p.Symbol >= imports || p.Add < 0 || p.Add > api.MaxAdd:
			return api.ErrRange
		case p.At < 0 || p.At > bytes-many:
			return api.ErrRange
		case p.At < end:
			return api.ErrState
		}
		end = p.At + many
	}
	return api.OK
}

// patched tells how many bytes a kind of patches has: 0, if there is no such kind. (Package patch leans on this one, so its Width can't be asked here.)
func patched(kind int) int {
	switch kind {
	case api.PatchWord, api.PatchHere:
		return 4
	case api.PatchHigh, api.PatchLow:
		return 2
	case api.PatchCall:
		return 3
	}
	return 0
}
