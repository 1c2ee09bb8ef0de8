// Package module: modules: see doc/02-module.md.
package module

import (
	"shipfitter/api"
	"shipfitter/rules"
)

// Check a module.
func Check(m api.Module) api.Errno {
	if !rules.IsName(m.Name) || m.Name == api.KernelName {
		return api.ErrForm
	}
	if !rules.IsVersion(m.Major, m.Minor) {
		return api.ErrRange
	}
	if tooMany(m) {
		return api.ErrMany
	}
	if len(m.Text) == 0 || len(m.Text)%4 != 0 {
		return api.ErrForm
	}
	if e := rules.Exports(m.Exports, len(m.Text)); e != api.OK {
		return e
	}
	if e := rules.Imports(m.Imports...); e != api.OK {
		return e
	}
	return wrongPatches(m.Patches, len(m.Text), len(m.Imports))
}

// Encode a module.
func Encode(m api.Module) (string, api.Errno) {
	if e := Check(m); e != api.OK {
		return "", e
	}
	var w writer
	w.module(m)
	return w.whole(), api.OK
}

// Decode a module.
func Decode(s string) (api.Module, api.Errno) {
	r := reader{from: s}
	m := r.module()
	if !r.readAll() {
		return api.Module{}, api.ErrForm
	}
	if e := Check(m); e != api.OK {
		return api.Module{}, e
	}
	return m, api.OK
}
