// Package rules: what more than one layer holds names, versions, lists and kinds to.
package rules

import "shipfitter/api"

// IsName tells whether a text is a NAME of doc/02-module.md.
func IsName(s string) bool {
	if len(s) < 1 || len(s) > api.MaxName || !isLetter(s[0]) {
		return false
	}
	for i := range len(s) {
		if c := s[i]; !isLetter(c) && !isDigit(c) && c != '_' {
			return false
		}
	}
	return true
}

func isLetter(c byte) bool { return c >= 'a' && c <= 'z' }

func isDigit(c byte) bool { return c >= '0' && c <= '9' }

// IsVersion tells whether both numbers are those of a version.
func IsVersion(major, minor int) bool {
	return major >= 0 && major <= api.MaxVersion && minor >= 0 && minor <= api.MaxVersion
}

// Exports tells what is wrong with exports whose places must be below a number.
func Exports(l []api.Export, below int) api.Errno {
	met := map[string]int{}
	for i, x := range l {
		_, twice := met[x.Name]
		switch {
		case !IsName(x.Name):
			return api.ErrForm
		case twice:
			return api.ErrTwice
		case x.At < 0 || x.At >= below:
			return api.ErrRange
		}
		met[x.Name] = i
	}
	return api.OK
}

// asked is what two imports may not both name.
type asked struct{ module, name string }

// Imports tells what is wrong with some of them.
func Imports(l ...api.Import) api.Errno {
	met := map[asked]int{}
	for i, x := range l {
		both := asked{x.Module, x.Name}
		_, twice := met[both]
		switch {
		case !IsName(x.Module) || !IsName(x.Name):
			return api.ErrForm
		case twice:
			return api.ErrTwice
		case !IsVersion(x.Major, x.Minor):
			return api.ErrRange
		}
		met[both] = i
	}
	return api.OK
}

// Width tells how many bytes a kind of patches has: 0, if there is no such kind.
func Width(kind int) int {
	switch kind {
	case api.PatchWord, api.PatchHere:
		return 4
	case api.PatchHigh, api.PatchLow:
		return 2
	case api.PatchCall:
		return 3
	}
	return 0
}
