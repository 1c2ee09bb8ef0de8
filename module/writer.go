package module

import (
	"shipfitter/api"
	"shipfitter/word"
)

// text is bytes that grow at their end.
type text struct{ bytes []byte }

func (t *text) add(s string) { t.bytes = append(t.bytes, s...) }

func (t *text) whole() string { return string(t.bytes) }

// writer writes the parts of a module into its text.
type writer struct{ text }

// numbers of so many bytes each. They are those of a module that Check has nothing against, so each one fits.
func (w *writer) numbers(bytes int, l ...int) {
	for _, n := range l {
		s, _ := word.Put(string(make([]byte, bytes)), 0, bytes, n)
		w.add(s)
	}
}

func (w *writer) name(s string) {
	w.numbers(1, len(s))
	w.add(s)
}

func (w *writer) module(m api.Module) {
	w.name(m.Name)
	w.numbers(1, m.Major, m.Minor)
	w.numbers(2, len(m.Text))
	w.add(m.Text)
	w.numbers(1, len(m.Exports))
	for _, x := range m.Exports {
		w.name(x.Name)
		w.numbers(2, x.At)
	}
	w.numbers(1, len(m.Imports))
	for _, x := range m.Imports {
		w.name(x.Module)
		w.name(x.Name)
		w.numbers(1, x.Major, x.Minor)
	}
	w.numbers(1, len(m.Patches))
	for _, p := range m.Patches {
		w.numbers(1, p.Kind)
		w.numbers(2, p.At)
		w.numbers(1, p.Symbol+1)
		w.numbers(2, p.Add)
	}
}
