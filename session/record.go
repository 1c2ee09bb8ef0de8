package session

import (
	"strings"

	"shipfitter/api"
	"shipfitter/module"
	"shipfitter/rules"
)

// whatIsNamed by a command of its kind, as bytes.
func whatIsNamed(c api.Cmd) (string, api.Errno) {
	switch c.Kind {
	case api.CmdInstall, api.CmdUpgrade:
		if c.Name != "" {
			return "", api.ErrForm
		}
		return module.Encode(c.Module)
	case api.CmdRemove:
		if !isNothing(c.Module) || !rules.IsName(c.Name) {
			return "", api.ErrForm
		}
		return c.Name, api.OK
	case api.CmdCompact:
		if !isNothing(c.Module) || c.Name != "" {
			return "", api.ErrForm
		}
		return "", api.OK
	}
	return "", api.ErrKind
}

// isNothing tells whether nothing of a module is there.
func isNothing(m api.Module) bool {
	return m.Name == "" && m.Major == 0 && m.Minor == 0 && m.Text == "" &&
		len(m.Exports) == 0 && len(m.Imports) == 0 && len(m.Patches) == 0
}

// likely is the only command that may have just these bytes; whether it has, Encode tells.
func likely(s string) api.Cmd {
	if s == "" {
		return api.Cmd{}
	}
	c := api.Cmd{Kind: int(s[0])}
	switch c.Kind {
	case api.CmdInstall, api.CmdUpgrade:
		// With an error there is no module, and a command without one has no bytes.
		c.Module, _ = module.Decode(s[1:])
	case api.CmdRemove:
		// New memory, so that what is answered does not hold on to the whole text.
		c.Name = strings.Clone(s[1:])
	}
	return c
}

// commands that some records are.
func commands(records []string) []api.Cmd {
	var l []api.Cmd
	for _, s := range records {
		if c, e := Decode(s); e == api.OK {
			l = append(l, c)
		}
	}
	return l
}
