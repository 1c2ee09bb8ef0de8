package link_test

import (
	"fmt"
	"math/rand"
	"strings"
	"testing"

	"shipfitter/api"
	"shipfitter/link"
)

// drawnModule of those that are named: some of what it asks for is not there, and some of its calls are odd.
func drawnModule(r *rand.Rand, name string, names []string) api.Module {
	m := api.Module{Name: name, Major: 1, Minor: r.Intn(4)}
	bytes := make([]byte, 4+4*r.Intn(64))
	for i := range bytes {
		bytes[i] = byte(r.Intn(256))
	}
	m.Text = string(bytes)
	m.Exports = []api.Export{{Name: "f", At: r.Intn(len(bytes))}, {Name: "g", At: r.Intn(len(bytes)) &^ 1}}
	for i, n := range r.Perm(2 * len(names))[:r.Intn(5)] {
		m.Imports = append(m.Imports, api.Import{Module: names[n/2], Name: "fg"[n%2 : n%2+1], Major: 1})
		if r.Intn(20) == 0 {
			m.Imports[i].Minor = 3
		}
	}
	end := r.Intn(20)
	for range r.Intn(13) {
		p := api.Patch{Kind: 1 + r.Intn(5), At: end, Symbol: r.Intn(len(m.Imports)+1) - 1, Add: r.Intn(65536) &^ 1}
		if r.Intn(4) > 0 && p.Kind == api.PatchCall {
			p.At += p.At % 2
		}
		if end = p.At + 4; end > len(bytes) {
			break
		}
		m.Patches = append(m.Patches, p)
		end += r.Intn(3) * r.Intn(9)
	}
	return m
}

// drawn is a world in which nothing is wrong with where the modules lie, nor with each by itself.
func drawn(r *rand.Rand) world {
	names := []string{"a", "b", "c", "d", "e", "g", "h", "i", "kernel", "none"}
	w := world{k: api.Kernel{Major: 1, Minor: r.Intn(4), Exports: []api.Export{{Name: "f", At: r.Intn(4096)}, {Name: "g", At: r.Intn(4096) &^ 1}}}}
	many := 1 + r.Intn(api.MaxModules)
	known := append(names[:many:many], "kernel")
	if r.Intn(4) == 0 {
		known = append(known, "none")
	}
	end := 0
	for i := range many {
		p := api.Placed{Module: drawnModule(r, names[i], known), First: end + r.Intn(3)*r.Intn(2)}
		if end = p.First + (len(p.Module.Text)+63)/64; end > api.Sectors {
			break
		}
		w.l = append(w.l, p)
	}
	return w
}

// symbol is the address of what an import names, word by word as the document has it.
func (w world) symbol(i api.Import) (int, api.Errno) {
	major, minor, begin, exports := -1, 0, 0, []api.Export(nil)
	if i.Module == "kernel" {
		major, minor, exports = w.k.Major, w.k.Minor, w.k.Exports
	}
	for _, p := range w.l {
		if p.Module.Name == i.Module {
			major, minor, begin, exports = p.Module.Major, p.Module.Minor, 4096+64*p.First, p.Module.Exports
		}
	}
	if major < 0 {
		return 0, api.ErrNone
	}
	if major != i.Major || minor < i.Minor {
		return 0, api.ErrState
	}
	for _, x := range exports {
		if x.Name == i.Name {
			return begin + x.At, api.OK
		}
	}
	return 0, api.ErrNone
}

// width of each kind.
var width = map[int]int{1: 4, 2: 4, 3: 2, 4: 2, 5: 3}

// lies is what a placed module's bytes must be.
func (w world) lies(p api.Placed) (string, api.Errno) {
	begin := 4096 + 64*p.First
	symbols := []int{begin}
	for _, i := range p.Module.Imports {
		n, e := w.symbol(i)
		if e != api.OK {
			return "", e
		}
		symbols = append(symbols, n)
	}
	all := []byte(p.Module.Text + blank(-len(p.Module.Text)&63))
	for _, x := range p.Module.Patches {
		n := symbols[x.Symbol+1] + x.Add
		switch x.Kind {
		case api.PatchHere:
			n -= begin + x.At
		case api.PatchHigh:
			n >>= 16
		case api.PatchCall:
			if n -= begin + x.At; n%2 != 0 {
				return "", api.ErrState
			}
			n /= 2
		}
		copy(all[x.At:x.At+width[x.Kind]], four(n))
	}
	return string(all), api.OK
}

// wholeArea is what all bytes must be.
func (w world) wholeArea() (string, api.Errno) {
	all := []byte(blank(1024))
	for _, p := range w.l {
		s, e := w.lies(p)
		if e != api.OK {
			return "", e
		}
		copy(all[64*p.First:], s)
	}
	return string(all), api.OK
}

func TestG1SomeWorlds(t *testing.T) {
	r := rand.New(rand.NewSource(7))
	told := map[api.Errno]int{}
	for i := range 6000 {
		w := drawn(r)
		want, e := w.wholeArea()
		area(t, fmt.Sprint(i), w, want, e)
		told[e]++
		for _, p := range w.l {
			w.name = p.Module.Name
			want, e := w.lies(p)
			image(t, fmt.Sprint(i), w, want, e)
		}
	}
	for _, e := range []api.Errno{api.OK, api.ErrState, api.ErrNone} {
		if told[e] < 100 {
			t.Errorf("%d is told of only %d of the worlds", e, told[e])
		}
	}
}

func TestG2BytesThatNoPatchTouchesAreThoseOfItsText(t *testing.T) {
	r := rand.New(rand.NewSource(9))
	for range 3000 {
		w := drawn(r)
		all, e := link.Area(w.k, w.l)
		if e != api.OK {
			continue
		}
		for _, p := range w.l {
			touched := make([]bool, len(p.Module.Text))
			for _, x := range p.Module.Patches {
				for i := range width[x.Kind] {
					touched[x.At+i] = true
				}
			}
			for i := range p.Module.Text {
				if got := all[64*p.First+i]; !touched[i] && got != p.Module.Text[i] {
					t.Fatalf("byte %d of %v is %d", i, p, got)
				}
			}
		}
	}
}

func TestG2WhereverItLies(t *testing.T) {
	m := sample().l[2].Module
	m.Patches = []api.Patch{{Kind: api.PatchWord, At: 1, Symbol: -1}, {Kind: api.PatchLow, At: 9, Symbol: -1}, {Kind: api.PatchHere, At: 60, Symbol: -1}}
	text := strings.Repeat("ijkl", 16)
	for first := range 16 {
		s, e := link.Image(api.Kernel{}, []api.Placed{{Module: m, First: first}}, "end")
		if e != api.OK || len(s) != 64 || s[:1] != text[:1] || s[5:9] != text[5:9] || s[11:60] != text[11:60] {
			t.Errorf("in sector %d: %q, %d", first, s, e)
		}
	}
}
