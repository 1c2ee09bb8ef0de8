package resolve_test

import (
	"fmt"
	"math"
	"testing"

	"shipfitter/api"
	"shipfitter/resolve"
)

// fault is one thing that is wrong with the sample.
type fault struct {
	what   string
	want   api.Errno
	change func(w *world)
}

// kernelFaults in the order in which D1 names them; export by export each stands at a later one than the ones ahead.
func kernelFaults() []fault {
	return []fault{
		{"kernel's version", api.ErrRange, func(w *world) { w.k.Minor = 256 }},
		{"kernel's exports are many", api.ErrMany, func(w *world) { w.k.Exports = append(w.k.Exports, make([]api.Export, 6)...) }},
		{"kernel's export's name", api.ErrForm, func(w *world) { w.k.Exports[0].Name = "F" }},
		{"kernel's export twice", api.ErrTwice, func(w *world) { w.k.Exports[1].Name = w.k.Exports[0].Name }},
		{"kernel's export's place", api.ErrRange, func(w *world) { w.k.Exports[2].At = 4096 }},
	}
}

func kernelIs(t *testing.T, what string, want api.Errno, changes ...func(w *world)) {
	t.Helper()
	w := changed(changes...)
	if e := resolve.Kernel(w.k); e != want {
		t.Errorf("%s: Kernel = %d; must be %d", what, e, want)
	}
	if n, e := resolve.Find(w.k, w.l, w.i); e != want || want != api.OK && n != 0 {
		t.Errorf("%s: Find = %d, %d; must be %d", what, n, e, want)
	}
	if l, e := resolve.All(w.k, w.l, api.Module{Name: "a", Text: "abcd"}); e != want || len(l) > 0 {
		t.Errorf("%s: All = %v, %d; must be %d", what, l, e, want)
	}
}

func TestD1KernelTheErrorThatIsNamedFirst(t *testing.T) {
	kernelIs(t, "sample", api.OK)
	for i, first := range kernelFaults() {
		kernelIs(t, first.what, first.want, first.change)
		for _, later := range kernelFaults()[i+1:] {
			kernelIs(t, first.what+", "+later.what, first.want, first.change, later.change)
			kernelIs(t, later.what+", "+first.what, first.want, later.change, first.change)
		}
	}
}

func TestD1KernelTheFirstExportTells(t *testing.T) {
	kernelIs(t, "place ahead of a name", api.ErrRange, func(w *world) { w.k.Exports[0].At, w.k.Exports[1].Name = -1, "" })
	kernelIs(t, "place ahead of twice", api.ErrRange, func(w *world) { w.k.Exports[0].At, w.k.Exports[1].Name = -1, "f" })
	kernelIs(t, "twice ahead of a name", api.ErrTwice, func(w *world) { w.k.Exports[1].Name, w.k.Exports[2].Name = "f", "" })
	kernelIs(t, "name and place", api.ErrForm, func(w *world) { w.k.Exports[1].At, w.k.Exports[1].Name = -1, "" })
	kernelIs(t, "twice and place", api.ErrTwice, func(w *world) { w.k.Exports[1].At, w.k.Exports[1].Name = -1, "f" })
	kernelIs(t, "no name, twice", api.ErrForm, func(w *world) { w.k.Exports[0].Name, w.k.Exports[1].Name = "", "" })
	kernelIs(t, "the last one is the first one", api.ErrTwice, func(w *world) { w.k.Exports[2].Name = "f" })
	kernelIs(t, "two at one place", api.OK, func(w *world) { w.k.Exports[1].At = w.k.Exports[0].At })
}

func TestD1KernelVersions(t *testing.T) {
	for _, n := range []int{math.MinInt, -1, 0, 1, 255, 256, math.MaxInt} {
		want := api.ErrRange
		if n >= 0 && n <= 255 {
			want = api.OK
		}
		kernelIs(t, fmt.Sprint("major ", n), want, func(w *world) { w.k.Major = n })
		kernelIs(t, fmt.Sprint("minor ", n), want, func(w *world) { w.k.Minor = n })
	}
}

func TestD1KernelExports(t *testing.T) {
	for n := range 20 {
		want := api.OK
		if n > 8 {
			want = api.ErrMany
		}
		kernelIs(t, fmt.Sprint(n, " exports"), want, func(w *world) {
			w.k.Exports = nil
			for i := range n {
				w.k.Exports = append(w.k.Exports, api.Export{Name: fmt.Sprint("e", i), At: i})
			}
		})
	}
	for _, at := range []int{math.MinInt, -1, 0, 1, 256, 4095, 4096, math.MaxInt} {
		want := api.ErrRange
		if at >= 0 && at < 4096 {
			want = api.OK
		}
		kernelIs(t, fmt.Sprint("export at ", at), want, func(w *world) { w.k.Exports[1].At = at })
	}
	for s, is := range names() {
		want := api.ErrForm
		if is {
			want = api.OK
		}
		kernelIs(t, fmt.Sprintf("export %q", s), want, func(w *world) { w.k.Exports[1].Name = s })
	}
}
