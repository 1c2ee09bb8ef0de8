package patch_test

import (
	"math"
	"strings"
	"testing"

	"shipfitter/api"
	"shipfitter/patch"
	"shipfitter/word"
)

// widths of the kinds of patches; 0 stands where there is none.
var widths = [...]int{0, 4, 4, 2, 2, 3, 0}

// notKinds: numbers that are no kind.
var notKinds = []int{math.MinInt, -1, 0, 6, 7, 256, 257, math.MaxInt}

func TestC1Width(t *testing.T) {
	for kind, want := range widths {
		e := api.OK
		if want == 0 {
			e = api.ErrKind
		}
		if n, f := patch.Width(kind); n != want || f != e {
			t.Errorf("Width(%d) = %d, %d; must be %d, %d", kind, n, f, want, e)
		}
	}
	for _, kind := range notKinds {
		if n, e := patch.Width(kind); n != 0 || e != api.ErrKind {
			t.Errorf("Width(%d) = %d, %d; must be 0, %d", kind, n, e, api.ErrKind)
		}
	}
}

func tells(t *testing.T, kind, symbol, add, place, want int, e api.Errno) {
	t.Helper()
	if n, f := patch.Value(kind, symbol, add, place); n != want || f != e {
		t.Errorf("Value(%d, %d, %d, %d) = %d, %d; must be %d, %d", kind, symbol, add, place, n, f, want, e)
	}
}

func TestC1Value(t *testing.T) {
	for _, c := range []struct{ kind, symbol, add, place, want int }{
		{api.PatchWord, 0, 0, 0, 0},
		{api.PatchWord, 4356, 1, 4160, 4357},
		{api.PatchWord, 65535, 65535, 65535, 131070},
		{api.PatchHere, 4356, 1, 4160, 197},
		{api.PatchHere, 4096, 0, 4096, 0},
		{api.PatchHere, 4096, 0, 4097, 1<<32 - 1},
		{api.PatchHere, 0, 0, 65535, 1<<32 - 65535},
		{api.PatchHere, 0, 65535, 65535, 0},
		{api.PatchHere, 65535, 65535, 0, 131070},
		{api.PatchHigh, 65535, 0, 9, 0},
		{api.PatchHigh, 65535, 1, 9, 1},
		{api.PatchHigh, 65535, 65535, 0, 1},
		{api.PatchHigh, 0, 0, 65535, 0},
		{api.PatchLow, 65535, 0, 9, 65535},
		{api.PatchLow, 65535, 1, 9, 0},
		{api.PatchLow, 65535, 65535, 0, 65534},
		{api.PatchLow, 4356, 1, 65535, 4357},
		{api.PatchCall, 4356, 0, 4160, 98},
		{api.PatchCall, 4355, 1, 4160, 98},
		{api.PatchCall, 4096, 0, 4096, 0},
		{api.PatchCall, 4096, 0, 4098, 1<<24 - 1},
		{api.PatchCall, 0, 1, 65535, 1<<24 - 32767},
		{api.PatchCall, 1, 0, 65535, 1<<24 - 32767},
		{api.PatchCall, 0, 0, 65534, 1<<24 - 32767},
		{api.PatchCall, 65535, 65535, 0, 65535},
	} {
		tells(t, c.kind, c.symbol, c.add, c.place, c.want, api.OK)
	}
}

func TestC1CallsThatAreOdd(t *testing.T) {
	for _, c := range [][3]int{{1, 0, 0}, {0, 1, 0}, {0, 0, 1}, {0, 0, 65535}, {65535, 65535, 1}, {4356, 1, 4160}, {65535, 65534, 0}, {3, 4, 4096}} {
		tells(t, api.PatchCall, c[0], c[1], c[2], 0, api.ErrState)
	}
	for odd := range 64 {
		want := odd * 1024 / 2
		tells(t, api.PatchCall, 1024*odd, 0, 0, want, api.OK)
		tells(t, api.PatchCall, 1024*odd+1, 0, 0, 0, api.ErrState)
	}
}

func TestC1OnlyCallsMustBeEven(t *testing.T) {
	tells(t, api.PatchWord, 4097, 0, 0, 4097, api.OK)
	tells(t, api.PatchHere, 4097, 0, 0, 4097, api.OK)
	tells(t, api.PatchHigh, 4097, 0, 0, 0, api.OK)
	tells(t, api.PatchLow, 4097, 0, 0, 4097, api.OK)
}

func TestC1NumbersThatMayNotStandThere(t *testing.T) {
	for kind := 1; kind <= 5; kind++ {
		for _, n := range []int{math.MinInt, -2, -1, 65536, 65537, math.MaxInt} {
			tells(t, kind, n, 0, 0, 0, api.ErrRange)
			tells(t, kind, 0, n, 0, 0, api.ErrRange)
			tells(t, kind, 0, 0, n, 0, api.ErrRange)
		}
		// The greatest that are right, each by itself (even sums, so that calls are right too).
		for _, c := range [][3]int{{65534, 0, 0}, {0, 65534, 0}, {0, 0, 65534}, {65535, 1, 0}, {1, 65535, 0}, {1, 0, 65535}} {
			if _, e := patch.Value(kind, c[0], c[1], c[2]); e != api.OK {
				t.Errorf("Value(%d, %v): %d; must be right", kind, c, e)
			}
		}
	}
}

func TestC1TheErrorThatIsNamedFirst(t *testing.T) {
	for _, kind := range notKinds {
		for _, c := range [][3]int{{-1, 0, 0}, {0, -1, 0}, {0, 0, -1}, {1, 0, 0}, {65536, 65536, 65536}} {
			tells(t, kind, c[0], c[1], c[2], 0, api.ErrKind)
		}
	}
	for _, c := range [][3]int{{65537, 0, 0}, {-1, 0, 0}, {0, 65537, 0}, {0, -1, 0}, {0, 0, 65537}, {0, 0, -1}, {-1 << 40, 1, 0}, {1<<40 + 1, 0, 0}} {
		tells(t, api.PatchCall, c[0], c[1], c[2], 0, api.ErrRange)
	}
}

func applies(t *testing.T, text string, p api.Patch, symbol, base int, want string, e api.Errno) {
	t.Helper()
	if s, f := patch.Apply(text, p, symbol, base); s != want || f != e {
		t.Errorf("Apply(%.20q, %v, %d, %d) = %.20q, %d; must be %.20q, %d", text, p, symbol, base, s, f, want, e)
	}
}

func TestC2Apply(t *testing.T) {
	for _, c := range []struct {
		p            api.Patch
		symbol, base int
		want         string
	}{
		{api.Patch{Kind: api.PatchWord, At: 0, Add: 1}, 4356, 4160, "\x05\x11\x00\x00efgh"},
		{api.Patch{Kind: api.PatchWord, At: 0, Add: 1}, 4164, 4096, "\x45\x10\x00\x00efgh"},
		{api.Patch{Kind: api.PatchWord, At: 4, Add: 65535}, 65535, 65279, "abcd\xfe\xff\x01\x00"},
		{api.Patch{Kind: api.PatchHere, At: 3, Add: 1}, 4356, 4160, "abc\xc2\x00\x00\x00h"},
		{api.Patch{Kind: api.PatchHere, At: 4}, 4096, 4096, "abcd\xfc\xff\xff\xff"},
		{api.Patch{Kind: api.PatchHere, At: 0}, 0, 65279, "\x01\x01\xff\xffefgh"},
		{api.Patch{Kind: api.PatchHigh, At: 6, Add: 1}, 65535, 0, "abcdef\x01\x00"},
		{api.Patch{Kind: api.PatchLow, At: 5, Add: 2}, 65535, 0, "abcde\x01\x00h"},
		{api.Patch{Kind: api.PatchCall, At: 5, Add: 1}, 4356, 4096, "abcde\x80\x00\x00"},
		{api.Patch{Kind: api.PatchCall, At: 4}, 4096, 4096, "abcd\xfe\xff\xffh"},
	} {
		for _, symbol := range []int{math.MinInt, -9, -1, 0, 6, math.MaxInt} {
			c.p.Symbol = symbol
			applies(t, "abcdefgh", c.p, c.symbol, c.base, c.want, api.OK)
		}
	}
}

func TestC2PlacesWithinAndBeyond(t *testing.T) {
	for kind := 1; kind <= 5; kind++ {
		for length := range 10 {
			for at := -2; at < 12; at++ {
				want := api.OK
				if at < 0 || at+widths[kind] > length {
					want = api.ErrRange
				}
				s, e := patch.Apply("abcdefghij"[:length], api.Patch{Kind: kind, At: at}, 4096+at&1, 4096)
				if e != want || want == api.OK && len(s) != length || want != api.OK && s != "" {
					t.Errorf("Apply of kind %d at %d of %d bytes = %q, %d; must be %d", kind, at, length, s, e, want)
				}
			}
		}
		for _, at := range []int{math.MinInt, math.MaxInt - 3, math.MaxInt} {
			applies(t, "abcdefgh", api.Patch{Kind: kind, At: at}, 4096, 4096, "", api.ErrRange)
			applies(t, "", api.Patch{Kind: kind, At: at}, 4096, 4096, "", api.ErrRange)
		}
	}
}

func TestC2Numbers(t *testing.T) {
	for kind := 1; kind <= 5; kind++ {
		right := api.Patch{Kind: kind}
		for _, n := range []int{math.MinInt, -2, -1, 65536, 65538, math.MaxInt} {
			applies(t, "abcd", api.Patch{Kind: kind, Add: n}, 0, 0, "", api.ErrRange)
			applies(t, "abcd", right, n, 0, "", api.ErrRange)
			applies(t, "abcd", right, 0, n, "", api.ErrRange)
		}
		applies(t, "abcd", right, 1, 65280, "", api.ErrRange)
		applies(t, "abcd", right, 0, 65280, "", api.ErrRange)
		for _, c := range [][3]int{{0, 1, 65279}, {1, 65534, 65279}, {65534, 0, 0}, {65535, 1, 0}, {0, 0, 0}} {
			if s, e := patch.Apply("abcd", api.Patch{Kind: kind, Add: c[0]}, c[1], c[2]); len(s) != 4 || e != api.OK {
				t.Errorf("Apply of kind %d, %v = %q, %d; must be right", kind, c, s, e)
			}
		}
	}
}

// Bytes may be more than a module's: the address of the place is held to its bound then too.
func TestC2PlacesBehindTheGreatestAddress(t *testing.T) {
	long := strings.Repeat("x", 70000)
	for kind := 1; kind <= 5; kind++ {
		for _, c := range []struct {
			at, base int
			want     api.Errno
		}{{65534, 0, api.OK}, {65536, 0, api.ErrRange}, {255, 65279, api.OK}, {257, 65279, api.ErrRange}, {69990, 65279, api.ErrRange}} {
			s, e := patch.Apply(long, api.Patch{Kind: kind, At: c.at}, 0, c.base)
			if e != c.want || c.want == api.OK && len(s) != len(long) || c.want != api.OK && s != "" {
				t.Errorf("Apply of kind %d at %d, base %d: %d bytes, %d; must be %d", kind, c.at, c.base, len(s), e, c.want)
			}
		}
	}
	applies(t, long, api.Patch{Kind: api.PatchCall, At: 65535}, 0, 0, "", api.ErrState)
	applies(t, long, api.Patch{Kind: api.PatchCall, At: 65537}, 0, 0, "", api.ErrRange)
}

func TestC2TheErrorThatIsNamedFirst(t *testing.T) {
	for _, kind := range notKinds {
		applies(t, "abcd", api.Patch{Kind: kind}, 0, 0, "", api.ErrKind)
		applies(t, "abcd", api.Patch{Kind: kind, Add: -1}, 0, 0, "", api.ErrKind)
		applies(t, "abcd", api.Patch{Kind: kind, At: -1}, 0, 0, "", api.ErrKind)
		applies(t, "", api.Patch{Kind: kind}, 0, 0, "", api.ErrKind)
		applies(t, "abcd", api.Patch{Kind: kind}, 0, -1, "", api.ErrKind)
		applies(t, "abcd", api.Patch{Kind: kind}, -1, 0, "", api.ErrKind)
		applies(t, "abcd", api.Patch{Kind: kind}, 1, 0, "", api.ErrKind)
	}
	odd := api.Patch{Kind: api.PatchCall}
	applies(t, "abcd", odd, 1, 0, "", api.ErrState)
	applies(t, "abcd", api.Patch{Kind: api.PatchCall, At: 1}, 0, 0, "", api.ErrState)
	applies(t, "abcd", api.Patch{Kind: api.PatchCall, Add: 65537}, 0, 0, "", api.ErrRange)
	applies(t, "abcd", api.Patch{Kind: api.PatchCall, At: -1}, 0, 0, "", api.ErrRange)
	applies(t, "abcd", api.Patch{Kind: api.PatchCall, At: 2}, 1, 0, "", api.ErrRange)
	applies(t, "ab", odd, 1, 0, "", api.ErrRange)
	applies(t, "abcd", odd, 0, -1, "", api.ErrRange)
	applies(t, "abcd", odd, 1, 65280, "", api.ErrRange)
	applies(t, "abcd", odd, -1, 0, "", api.ErrRange)
	applies(t, "abcd", odd, 65537, 0, "", api.ErrRange)
}

func TestC3BytesElsewhereAreAsTheyWere(t *testing.T) {
	for _, text := range []string{strings.Repeat("\x00", 16), strings.Repeat("\xff", 16), "abcdefghijklmnop"} {
		for kind := 1; kind <= 5; kind++ {
			for at := 0; at+widths[kind] <= len(text); at++ {
				for _, c := range [][2]int{{0, 0}, {4356, 2}, {65534, 65534}} {
					elsewhere(t, text, api.Patch{Kind: kind, At: at, Add: c[1]}, c[0]+at&1, 4160)
				}
			}
		}
	}
}

func elsewhere(t *testing.T, text string, p api.Patch, symbol, base int) {
	t.Helper()
	s, e := patch.Apply(text, p, symbol, base)
	end := p.At + widths[p.Kind]
	if e != api.OK || len(s) != len(text) || s[:p.At] != text[:p.At] || s[end:] != text[end:] {
		t.Fatalf("Apply(%q, %v, %d, %d) = %q, %d: something else is other", text, p, symbol, base, s, e)
	}
	want, e := patch.Value(p.Kind, symbol, p.Add, base+p.At)
	if n, f := word.Get(s, p.At, widths[p.Kind]); n != want || e != api.OK || f != api.OK {
		t.Fatalf("Apply(%q, %v, %d, %d) = %q: %d stands there; must be %d", text, p, symbol, base, s, n, want)
	}
}

// found is where a symbol is, read back from bytes that are patched.
func found(s string, p api.Patch, base int) int {
	n, _ := word.Get(s, p.At, widths[p.Kind])
	switch p.Kind {
	case api.PatchHere:
		n, _ = word.Signed(n, 32)
		n += base + p.At
	case api.PatchCall:
		n, _ = word.Signed(n, 24)
		n = 2*n + base + p.At
	}
	return n - p.Add
}

func TestC3WhatIsPatchedTellsWhereTheSymbolIs(t *testing.T) {
	addresses := []int{0, 1, 2, 33, 4095, 4096, 4356, 65278, 65534, 65535}
	for _, symbol := range addresses {
		for _, add := range addresses {
			for at := range 5 {
				for _, base := range []int{0, 1, 4096, 4160, 65279} {
					tellsWhere(t, symbol, add, at, base)
				}
			}
		}
	}
}

func tellsWhere(t *testing.T, symbol, add, at, base int) {
	t.Helper()
	for _, kind := range []int{api.PatchWord, api.PatchHere, api.PatchCall} {
		p := api.Patch{Kind: kind, At: at, Add: add}
		s, e := patch.Apply("abcdefgh", p, symbol, base)
		if odd := (symbol + add + base + at) % 2; kind == api.PatchCall && odd == 1 {
			if s != "" || e != api.ErrState {
				t.Fatalf("Apply of %v, %d, %d = %q, %d; must be %d", p, symbol, base, s, e, api.ErrState)
			}
			continue
		}
		if n := found(s, p, base); e != api.OK || n != symbol {
			t.Fatalf("Apply of %v, %d, %d = %q, %d: tells %d", p, symbol, base, s, e, n)
		}
	}
	high, e := patch.Apply("abcdefgh", api.Patch{Kind: api.PatchHigh, At: at, Add: add}, symbol, base)
	both, f := patch.Apply(high, api.Patch{Kind: api.PatchLow, At: at + 2, Add: add}, symbol, base)
	more, _ := word.Get(both, at, 2)
	less, _ := word.Get(both, at+2, 2)
	if e != api.OK || f != api.OK || more<<16+less-add != symbol {
		t.Fatalf("both halves of %d and %d at %d: %q, %d, %d", symbol, add, at, both, e, f)
	}
}

func TestP1NothingPanicsWhateverIsHandedIn(t *testing.T) {
	odd := []int{math.MinInt, -1 << 32, -65536, -1, 0, 1, 3, 5, 7, 65279, 65280, 65535, 65536, 1 << 32, math.MaxInt - 1, math.MaxInt}
	for _, kind := range odd {
		for _, a := range odd {
			for _, b := range odd {
				for _, c := range odd {
					if n, e := patch.Value(kind, a, b, c); e != api.OK && n != 0 || n < 0 {
						t.Errorf("Value(%d, %d, %d, %d) = %d, %d", kind, a, b, c, n, e)
					}
					p := api.Patch{Kind: kind, At: a, Add: b, Symbol: c}
					if s, e := patch.Apply("abcdefgh", p, c, a); e != api.OK && s != "" || e == api.OK && len(s) != 8 {
						t.Errorf("Apply of %v, %d, %d = %q, %d", p, c, a, s, e)
					}
				}
			}
		}
	}
}

func TestP2P3WhatIsHandedInStaysAndAnswersAreTheSameEachTime(t *testing.T) {
	text := strings.Clone("abcdefgh")
	for range 3 {
		applies(t, text, api.Patch{Kind: api.PatchLow, At: 2, Add: 1}, 4356, 4096, "ab\x05\x11efgh", api.OK)
		if text != "abcdefgh" {
			t.Errorf("what was handed in is %q now", text)
		}
	}
}
