package module

import (
	"strings"

	"shipfitter/api"
	"shipfitter/word"
)

// reader reads the parts of a module from a text.
type reader struct {
	from  string
	at    int
	short bool // something was to be read that is not there
}

// readAll tells whether all was there that was read, and nothing is behind it.
func (r *reader) readAll() bool { return !r.short && r.at == len(r.from) }

func (r *reader) number(bytes int) int {
	n, e := word.Get(r.from, r.at, bytes)
	if e != api.OK {
		r.short = true
		return 0
	}
	r.at += bytes
	return n
}

// piece of so many bytes: new memory, so that what is answered does not hold on to the whole text.
func (r *reader) piece(many int) string {
	if many > len(r.from)-r.at {
		r.short = true
		return ""
	}
	s := strings.Clone(r.from[r.at : r.at+many])
	r.at += many
	return s
}

func (r *reader) name() string { return r.piece(r.number(1)) }

// times does as often as a byte says what reads one thing.
func (r *reader) times(read func()) {
	for range r.number(1) {
		if r.short {
			return
		}
		read()
	}
}

func (r *reader) module() api.Module {
	m := api.Module{Name: r.name(), Major: r.number(1), Minor: r.number(1), Text: r.piece(r.number(2))}
	r.times(func() {
		m.Exports = append(m.Exports, api.Export{Name: r.name(), At: r.number(2)})
	})
	r.times(func() {
		m.Imports = append(m.Imports, api.Import{Module: r.name(), Name: r.name(), Major: r.number(1), Minor: r.number(1)})
	})
	r.times(func() {
		m.Patches = append(m.Patches, api.Patch{Kind: r.number(1), At: r.number(2), Symbol: r.number(1) - 1, Add: r.number(2)})
	})
	return m
}
