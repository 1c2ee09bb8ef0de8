package session_test

import (
	"fmt"
	"math/rand"
	"slices"
	"strings"
	"testing"

	"shipfitter/api"
	"shipfitter/compact"
	"shipfitter/flash"
	"shipfitter/graph"
	"shipfitter/journal"
	"shipfitter/link"
	"shipfitter/module"
	"shipfitter/patch"
	"shipfitter/plan"
	"shipfitter/region"
	"shipfitter/registry"
	"shipfitter/resolve"
	"shipfitter/session"
	"shipfitter/word"
)

// Tests of the section 'What the whole promises', a test a row, over what drawn commands make.

// drawnRegistries are right; most of them have some modules, and free sectors between them.
func drawnRegistries(r *rand.Rand, many int) []api.Registry {
	var l []api.Registry
	for range many {
		all := of()
		for range 4 + r.Intn(30) {
			if c := drawnCmd(r, all); c.Kind != api.CmdCompact {
				all, _ = after(all, c)
			}
		}
		l = append(l, all)
	}
	return l
}

// otherwhere holds two texts of one length to differ nowhere but in so many bytes from a place on.
func otherwhere(t *testing.T, a, b string, at, many int) {
	t.Helper()
	if len(a) != len(b) || a[:at] != b[:at] || a[at+many:] != b[at+many:] {
		t.Fatalf("%q and %q differ outside of %d bytes from %d on", a, b, many, at)
	}
}

func TestWholeWhatIsPutIsThereAndNothingElseIsOther(t *testing.T) {
	r := rand.New(rand.NewSource(21))
	for range 3000 {
		was, bytes := drawnBytes(r, 4+r.Intn(30)), 1+r.Intn(4)
		at, n := r.Intn(len(was)-bytes+1), r.Intn(1<<32)&(1<<(8*bytes)-1)
		s, e := word.Put(was, at, bytes, n)
		if got, f := word.Get(s, at, bytes); got != n || e != api.OK || f != api.OK {
			t.Fatalf("Get behind Put of %d = %d, %d, %d", n, got, e, f)
		}
		otherwhere(t, s, was, at, bytes)
	}
	patched := 0
	for range 3000 {
		p := api.Patch{Kind: 1 + r.Intn(5), At: r.Intn(61), Symbol: r.Intn(9) - 1, Add: r.Intn(65536)}
		was, symbol, base := drawnBytes(r, 64), r.Intn(65536), r.Intn(65000)
		s, e := patch.Apply(was, p, symbol, base)
		if e != api.OK {
			continue
		}
		patched++
		width, _ := patch.Width(p.Kind)
		want, f := patch.Value(p.Kind, symbol, p.Add, base+p.At)
		if got, g := word.Get(s, p.At, width); got != want || f != api.OK || g != api.OK {
			t.Fatalf("Get behind Apply of %+v = %d, %d; must be %d, %d", p, got, g, want, f)
		}
		otherwhere(t, s, was, p.At, width)
	}
	if patched < 2000 {
		t.Errorf("only %d are patched", patched)
	}
}

func TestWholeWhatIsEncodedIsDecodedAsItWasAndNothingElseIs(t *testing.T) {
	r := rand.New(rand.NewSource(22))
	decoded := 0
	for _, all := range drawnRegistries(r, 60) {
		for _, p := range all.Modules {
			s, e := module.Encode(p.Module)
			if m, f := module.Decode(s); told(m) != told(p.Module) || e != api.OK || f != api.OK {
				t.Fatalf("Decode of Encode of %+v = %+v, %d, %d", p.Module, m, e, f)
			}
			for range 100 {
				b := []byte(s)
				b[r.Intn(len(b))] = byte(r.Intn(256))
				m, e := module.Decode(string(b))
				if e != api.OK {
					continue
				}
				decoded++
				if back, f := module.Encode(m); back != string(b) || f != api.OK {
					t.Fatalf("Encode of Decode of %q = %q, %d", b, back, f)
				}
			}
		}
	}
	if decoded < 1000 {
		t.Errorf("only %d are decoded", decoded)
	}
}

func TestWholeWhatIsFoundIsWithinItsModule(t *testing.T) {
	found := 0
	for _, all := range drawnRegistries(rand.New(rand.NewSource(23)), 100) {
		begin, end := map[string]int{"kernel": 0}, map[string]int{"kernel": 4096}
		for _, p := range all.Modules {
			begin[p.Module.Name] = 4096 + 64*p.First
			end[p.Module.Name] = 4096 + 64*p.First + len(p.Module.Text)
		}
		for _, p := range all.Modules {
			l, e := resolve.All(all.Kernel, all.Modules, p.Module)
			for i, x := range p.Module.Imports {
				n, f := resolve.Find(all.Kernel, all.Modules, x)
				if n < begin[x.Module] || n >= end[x.Module] || l[i] != n || e != api.OK || f != api.OK {
					t.Fatalf("%+v is at %d, %d, %d", x, n, e, f)
				}
				found++
			}
		}
	}
	if found < 200 {
		t.Errorf("only %d are found", found)
	}
}

func TestWholeOneNeedsAnotherOneJustIfThatOneIsUsedByIt(t *testing.T) {
	r := rand.New(rand.NewSource(24))
	met := map[bool]int{}
	for _, all := range drawnRegistries(r, 100) {
		l := copied(all).Modules
		// One more import, maybe of itself, or through others: rings are told too.
		if len(l) > 1 {
			m := &l[r.Intn(len(l))].Module
			m.Imports = append(m.Imports, api.Import{Module: l[r.Intn(len(l))].Module.Name, Name: "more"})
		}
		for _, a := range l {
			needs, e := graph.Needs(l, a.Module.Name)
			for _, b := range l {
				users, f := graph.Users(l, b.Module.Name)
				is := slices.Contains(needs, b.Module.Name)
				if is != slices.Contains(users, a.Module.Name) || e != api.OK || f != api.OK {
					t.Fatalf("%q needs %q, %d; %q is used by %q, %d", a.Module.Name, needs, e, b.Module.Name, users, f)
				}
				met[is]++
			}
		}
	}
	if met[true] < 200 || met[false] < 200 {
		t.Errorf("%d pairs need each other, %d do not", met[true], met[false])
	}
}

// takenBy tells of each sector by which module it is taken: none, if empty.
func takenBy(t *testing.T, l []api.Placed) (by [api.Sectors]string) {
	t.Helper()
	for _, p := range l {
		many, e := region.Size(p.Module)
		for i := range many {
			if e != api.OK || by[p.First+i] != "" {
				t.Fatalf("%q is in the way of %q, %d", p.Module.Name, by[p.First+i], e)
			}
			by[p.First+i] = p.Module.Name
		}
	}
	return by
}

func TestWholeWhatIsPlacedIsInNobodysWay(t *testing.T) {
	r := rand.New(rand.NewSource(25))
	placed, none := 0, 0
	for _, all := range drawnRegistries(r, 200) {
		by := takenBy(t, all.Modules)
		many := 1 + r.Intn(4)
		first, e := region.First(all.Modules, many)
		if e == api.ErrSpace {
			none++
			for i := range api.Sectors - many + 1 {
				if strings.Join(by[i:i+many], "") == "" {
					t.Fatalf("%d sectors are free from %d on, of which First tells nothing", many, i)
				}
			}
			continue
		}
		if e != api.OK || strings.Join(by[first:first+many], "") != "" {
			t.Fatalf("First of %d sectors = %d, %d; taken are %q", many, first, e, by)
		}
		if got, e := plan.Install(all, mod("new", 64*many)); e == api.OK {
			placed++
			takenBy(t, got.Modules)
		}
	}
	if placed < 50 || none < 10 {
		t.Errorf("%d are placed; for %d there is no room", placed, none)
	}
}

func TestWholeBytesThatNoPatchTouchesAreThoseOfTheText(t *testing.T) {
	other := 0
	for _, all := range drawnRegistries(rand.New(rand.NewSource(26)), 600) {
		packed, _, _ := compact.Pack(all)
		for _, p := range all.Modules {
			a, e := link.Image(all.Kernel, all.Modules, p.Module.Name)
			b, f := link.Image(packed.Kernel, packed.Modules, p.Module.Name)
			touched := map[int]int{}
			for _, x := range p.Module.Patches {
				width, _ := patch.Width(x.Kind)
				for i := range width {
					touched[x.At+i]++
				}
			}
			text := p.Module.Text + strings.Repeat("\xff", len(a)-len(p.Module.Text))
			for i := range text {
				if touched[i] == 0 && (a[i] != text[i] || b[i] != text[i]) || len(a) != len(b) || e != api.OK || f != api.OK {
					t.Fatalf("byte %d of %q: %q, %d; packed %q, %d", i, text, a, e, b, f)
				}
			}
			if a != b {
				other++
			}
		}
	}
	if other < 100 {
		t.Errorf("only %d modules have other bytes elsewhere", other)
	}
}

func TestWholeOfARegistryThatIsRightAllCanBeTold(t *testing.T) {
	for _, all := range drawnRegistries(rand.New(rand.NewSource(27)), 100) {
		if e := registry.Check(all); e != api.OK {
			t.Fatalf("Check of %+v = %d", all, e)
		}
		area, e := link.Area(all.Kernel, all.Modules)
		order, f := graph.Order(all.Modules)
		_, g := region.Free(all.Modules)
		if len(area) != 1024 || len(order) != len(all.Modules) || e != api.OK || f != api.OK || g != api.OK {
			t.Fatalf("%d bytes, %d; %q, %d; %d", len(area), e, order, f, g)
		}
		for _, p := range all.Modules {
			x, e := registry.Find(all, p.Module.Name)
			s, f := link.Image(all.Kernel, all.Modules, p.Module.Name)
			l, g := resolve.All(all.Kernel, all.Modules, p.Module)
			if told(x) != told(p) || area[64*p.First:64*p.First+len(s)] != s || len(l) != len(p.Module.Imports) || e != api.OK || f != api.OK || g != api.OK {
				t.Fatalf("%q: %+v, %d; %q, %d; %v, %d", p.Module.Name, x, e, s, f, l, g)
			}
		}
	}
}

func TestWholeWhatComesIsRightAndAllOtherModulesLieWhereTheyLay(t *testing.T) {
	r := rand.New(rand.NewSource(28))
	made := 0
	for _, all := range drawnRegistries(r, 200) {
		c := drawnCmd(r, all)
		got, e := after(all, c)
		if e != api.OK || c.Kind == api.CmdCompact {
			continue
		}
		made++
		others := func(r api.Registry) string {
			return told(slices.DeleteFunc(slices.Clone(r.Modules), func(p api.Placed) bool { return p.Module.Name == c.Module.Name+c.Name }))
		}
		if e := registry.Check(got); e != api.OK || others(got) != others(all) {
			t.Fatalf("%+v makes %+v of %+v; Check = %d", c, got, all, e)
		}
	}
	if made < 50 {
		t.Errorf("only %d commands have no Errno", made)
	}
}

func TestWholeBehindEachStepAllIsRightAndBehindAllOneRunIsFree(t *testing.T) {
	steps := 0
	for _, all := range drawnRegistries(rand.New(rand.NewSource(29)), 400) {
		for now, ok := all, true; ok; {
			var e api.Errno
			now, ok, e = compact.Step(now)
			if f := registry.Check(now); e != api.OK || f != api.OK {
				t.Fatalf("Step = %+v, %d; Check = %d", now, e, f)
			}
			if ok {
				steps++
				continue
			}
			packed, _, e := compact.Pack(all)
			if runs, f := region.Free(now.Modules); len(runs) > 1 || told(packed) != told(now) || e != api.OK || f != api.OK {
				t.Fatalf("free are %v, %d; Pack = %+v, %d", runs, f, packed, e)
			}
		}
	}
	if steps < 200 {
		t.Errorf("only %d steps", steps)
	}
}

func TestWholeAProgramNeverTurnsABitFrom0To1(t *testing.T) {
	r := rand.New(rand.NewSource(30))
	for range 300 {
		f := api.Flash{Blocks: []string{drawnBytes(r, 128), strings.Repeat("\xff", 128)}}
		for range 20 {
			d := api.Deed{Kind: api.DeedProgram, At: r.Intn(256), Value: r.Intn(256)}
			done, e := flash.Do(f, []api.Deed{d})
			torn, g := flash.Torn(f, d, drawnBytes(r, r.Intn(2)))
			was, is, half := strings.Join(f.Blocks, ""), strings.Join(done.Blocks, ""), strings.Join(torn.Blocks, "")
			for i := range len(was) {
				if is[i]&^was[i] != 0 || half[i]&^was[i] != 0 || is[i]&^half[i] != 0 || e != api.OK || g != api.OK {
					t.Fatalf("%+v makes %x of %x at %d, torn %x; %d, %d", d, is[i], was[i], i, half[i], e, g)
				}
			}
			f = torn
		}
	}
}

func TestWholeWhateverCrashThereIsAllRecordsAreThere(t *testing.T) {
	r := rand.New(rand.NewSource(31))
	met := map[bool]int{}
	for range 100 {
		f := formatted(t, 3+r.Intn(20))
		var were []string
		for range 12 {
			s := drawnBytes(r, 1+r.Intn([]int{3, 60, 800}[r.Intn(3)]))
			_, l, e := journal.Append(f, s)
			if e == api.ErrSpace {
				break
			}
			k := r.Intn(len(l) + 1)
			f, _ = flash.Do(f, l[:k])
			if k < len(l) {
				f, _ = flash.Torn(f, l[k], drawnBytes(r, r.Intn(3)))
			}
			got, e := journal.Open(f)
			whole := slices.Equal(got, append(slices.Clone(were), s))
			if e != api.OK || !whole && (k == len(l) || !slices.Equal(got, were)) {
				t.Fatalf("behind %d of %d deeds: %q, %d; must be %q, maybe with %q", k, len(l), got, e, were, s)
			}
			were = got
			met[whole]++
		}
	}
	if met[true] < 50 || met[false] < 50 {
		t.Errorf("%d crashes left the record, %d did not", met[true], met[false])
	}
}

func TestWholeWhatWasPlayedIsReopenedToTheByte(t *testing.T) {
	r := rand.New(rand.NewSource(32))
	for i := range 100 {
		l, want, errnos := drawnCmds(r, of(), r.Intn(41))
		f, got, e := session.Play(kernel(), formatted(t, 32), l)
		if e == api.ErrSpace {
			want, _, e = session.Run(of(), l[:len(got)])
		}
		if !slices.Equal(got, errnos[:len(got)]) || e != api.OK {
			t.Fatalf("Play = %v, %d; must be %v", got, e, errnos)
		}
		back, e := session.Reopen(kernel(), f)
		if e != api.OK {
			t.Fatalf("Reopen = %d", e)
		}
		same(t, fmt.Sprint(i), back, want)
	}
}
