package journal_test

import (
	"math/rand"
	"slices"
	"strings"
	"testing"

	"shipfitter/api"
	"shipfitter/journal"
)

// crashes of one Append, at each deed, torn by each part: what is there then, and that one more record finds its place behind all.
func crashes(t *testing.T, f api.Flash, were []string, s string, parts []string) {
	t.Helper()
	after, l := append1(t, f, s)
	for k := range l {
		for _, part := range parts {
			what := say("deed ", k, " of ", len(l), ", torn by ", []byte(part))
			g := cut(t, f, l, k, part)
			now := left(t, what, g, were, s)
			g, _ = append1(t, g, "next")
			opens(t, what+", then one more", g, append(slices.Clone(now), "next")...)
		}
		left(t, say("behind ", k, " deeds"), cut(t, f, l[:k], k, ""), were, s)
	}
	opens(t, "behind the last deed", after, append(slices.Clone(were), s)...)
}

func TestL2AndL3CrashesAtEachDeedTornByEachPart(t *testing.T) {
	for _, s := range []string{"a", "\xff", "\x00", "ends\xff\xff", "\x01\x00\xfcx", numbered(20, 200)} {
		crashes(t, formatted(t, 3), nil, s, parts())
		f, _ := append1(t, formatted(t, 3), "first")
		f, _ = append1(t, f, "\xff\xff")
		crashes(t, f, []string{"first", "\xff\xff"}, s, parts())
	}
}

func TestL2AndL3CrashesOfEachLength(t *testing.T) {
	f, _ := append1(t, formatted(t, 20), "first")
	for _, n := range []int{1, 2, 3, 120, 127, 128, 129, 252, 253, 254, 255, 256, 257, 258, 511, 512, 513, 767, 768, 769, 799, 800} {
		crashes(t, f, []string{"first"}, numbered(n, n), []string{"", "\x00", "\xaa"})
	}
	for _, s := range odd() {
		crashes(t, f, []string{"first"}, s, []string{"\x55", "\xff"})
	}
}

// Lengths differ in the bits that tell them: each is torn by each part.
func TestL2AndL3TornHeadsOfEachLength(t *testing.T) {
	for n := 1; n <= 800; n++ {
		f := formatted(t, 20)
		_, l := append1(t, f, numbered(n, 0))
		for k := range 4 {
			for _, part := range []string{"\xaa", "\x55", "\xfe", "\x7f", "\xfc", "\x03"} {
				g := cut(t, f, l, k, part)
				left(t, "torn", g, nil, numbered(n, 0))
				g, _ = append1(t, g, "next")
				opens(t, say(n, " bytes, torn at deed ", k, " by ", []byte(part)), g, "next")
			}
		}
	}
}

func TestL2AndL3OneCrashBehindTheOther(t *testing.T) {
	start, _ := append1(t, formatted(t, 4), "first")
	for _, s := range []string{"ab", "\xff", "\x00\xff"} {
		_, l := append1(t, start, s)
		for k := range len(l) + 1 {
			for _, part := range fewParts() {
				f := cut(t, start, l, k, part)
				were := left(t, "the first crash", f, []string{"first"}, s)
				crashes(t, f, were, s, fewParts())
				crashes(t, f, were, "other", fewParts()[:4])
			}
		}
	}
}

func TestL2AndL3ThreeCrashes(t *testing.T) {
	start := formatted(t, 3)
	var walk func(f api.Flash, were []string, depth int)
	walk = func(f api.Flash, were []string, depth int) {
		s := string(rune('a' + depth))
		_, l := append1(t, f, s)
		for k := range len(l) + 1 {
			for _, part := range []string{"\x00", "\xff", "\xa5", "\x5a"} {
				g := cut(t, f, l, k, part)
				now := left(t, say("depth ", depth, ", deed ", k), g, were, s)
				if depth < 3 {
					walk(g, now, depth+1)
				}
			}
		}
	}
	walk(start, nil, 0)
}

// drawnRecord is short, mostly.
func drawnRecord(r *rand.Rand) string {
	n := 1 + r.Intn([]int{1, 4, 20, 300, 800}[r.Intn(5)])
	switch r.Intn(4) {
	case 0:
		return strings.Repeat("\xff", n)
	case 1:
		return strings.Repeat("\x00", n)
	}
	b := make([]byte, n)
	for i := range b {
		b[i] = byte(r.Intn(256))
	}
	return string(b)
}

// life of a flash: records are appended, with crashes, until there is no room.
func life(t *testing.T, r *rand.Rand, blocks, calm int) (crashed int) {
	t.Helper()
	f := formatted(t, blocks)
	var were []string
	asked, bytes := 0, 0
	for {
		s := drawnRecord(r)
		asked, bytes = asked+1, bytes+len(s)
		after, l, e := journal.Append(f, s)
		if e == api.ErrSpace && !promised(blocks, asked, bytes) {
			return crashed
		}
		if e != api.OK {
			t.Fatalf("%d blocks, %d records of %d bytes: Append tells %d", blocks, asked, bytes, e)
		}
		leads(t, f, l, after)
		if r.Intn(calm) > 0 {
			f, were = after, append(were, s)
			opens(t, "a whole record", f, were...)
			continue
		}
		crashed++
		k := r.Intn(len(l) + 1)
		if r.Intn(2) == 0 {
			k = []int{0, 1, 2, len(l) - 1, len(l)}[r.Intn(5)]
		}
		f = cut(t, f, l, k, string([]byte{byte(r.Intn(256)), 7})[:r.Intn(3)])
		were = left(t, say("a crash at deed ", k), f, were, s)
	}
}

func TestL1L2AndL3SomeLives(t *testing.T) {
	r := rand.New(rand.NewSource(12))
	crashed := 0
	for i := range 600 {
		crashed += life(t, r, 3+r.Intn(30), 2+i%3)
	}
	if crashed < 1000 {
		t.Errorf("only %d crashes", crashed)
	}
}

// Crashes take no more room than is promised for what was asked, however many there are.
func TestL1RoomBehindCrashes(t *testing.T) {
	for _, s := range []string{"a", "\xff", numbered(100, 1), numbered(800, 2)} {
		for _, back := range []int{0, 1, 2} {
			for _, part := range fewParts() {
				roomBehind(t, 20, s, back, part)
			}
		}
		for k := range 4 {
			for _, part := range fewParts() {
				roomBehind(t, 20, s, -1-k, part)
			}
		}
	}
}

// roomBehind crashes at one deed (so many from the last one on back; below 0, from the first one on) as long as room is promised.
func roomBehind(t *testing.T, blocks int, s string, back int, part string) {
	t.Helper()
	f := formatted(t, blocks)
	var were []string
	for asked := 1; promised(blocks, asked, asked*len(s)); asked++ {
		_, l := append1(t, f, s)
		k := len(l) - back
		if back < 0 {
			k = -1 - back
		}
		f = cut(t, f, l, k, part)
		were = left(t, say("crash ", asked), f, were, s)
	}
}
