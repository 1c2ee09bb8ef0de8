package session

import (
	"shipfitter/api"
	"shipfitter/compact"
	"shipfitter/copies"
	"shipfitter/plan"
)

// runner runs commands: its registry, which is its own, is what came of them.
type runner struct{ api.Registry }

// runnerOf a registry that is right: so is all that comes of it.
func runnerOf(r api.Registry) runner { return runner{copies.Registry(r)} }

// each of some commands is run, one by one: their Errnos. What is done with the bytes of one that has none, done tells; if that has an error, all ends, with the Errnos of the commands ahead of that one.
func (r *runner) each(l []api.Cmd, done func(record string) api.Errno) ([]api.Errno, api.Errno) {
	var errnos []api.Errno
	for _, c := range l {
		record, e := r.run(c)
		if e == api.OK {
			if failed := done(record); failed != api.OK {
				return errnos, failed
			}
		}
		errnos = append(errnos, e)
	}
	return errnos, api.OK
}

// run a command: its bytes. With an Errno the registry stays as it is.
func (r *runner) run(c api.Cmd) (string, api.Errno) {
	record, e := Encode(c)
	if e != api.OK {
		return "", e
	}
	after, e := r.behind(c)
	if e != api.OK {
		return "", e
	}
	r.Registry = after
	return record, api.OK
}

// behind a command of which Encode has no error: what becomes of the registry.
func (r *runner) behind(c api.Cmd) (api.Registry, api.Errno) {
	switch c.Kind {
	case api.CmdInstall:
		return plan.Install(r.Registry, c.Module)
	case api.CmdRemove:
		return plan.Remove(r.Registry, c.Name)
	case api.CmdUpgrade:
		return plan.Upgrade(r.Registry, c.Module)
	}
	after, _, e := compact.Pack(r.Registry)
	return after, e
}
