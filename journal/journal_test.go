package journal_test

import (
	"math"
	"math/rand"
	"slices"
	"strings"
	"testing"

	"shipfitter/api"
	"shipfitter/flash"
	"shipfitter/journal"
)

func TestL1Format(t *testing.T) {
	for blocks := 3; blocks <= 32; blocks++ {
		f := formatted(t, blocks)
		if e := flash.Check(f); e != api.OK || len(f.Blocks) != blocks {
			t.Errorf("Format(%d): %d blocks, of which Check tells %d", blocks, len(f.Blocks), e)
		}
		opens(t, say(blocks), f)
	}
	for _, blocks := range []int{math.MinInt, -3, -1, 0, 1, 2, 33, 34, math.MaxInt} {
		if f, e := journal.Format(blocks); len(f.Blocks) > 0 || e != api.ErrRange {
			t.Errorf("Format(%d) = %d blocks, %d; must be %d", blocks, len(f.Blocks), e, api.ErrRange)
		}
	}
}

func TestL1ARecordBehindThoseThatAreThere(t *testing.T) {
	f := formatted(t, 32)
	var all []string
	for _, s := range append([]string{"first", "a", "a", "ab", strings.Repeat("r", 800), "last"}, odd()[:12]...) {
		f, _ = append1(t, f, s)
		all = append(all, s)
		opens(t, say(len(all)), f, all...)
	}
}

func TestL1RecordsOfEachLength(t *testing.T) {
	ahead, _ := append1(t, formatted(t, 32), "ahead")
	for n := 1; n <= 800; n++ {
		for _, s := range []string{strings.Repeat("\xff", n), strings.Repeat("\x00", n), numbered(n, n)} {
			f, _ := append1(t, ahead, s)
			f, _ = append1(t, f, "behind")
			opens(t, say(n, " bytes"), f, "ahead", s, "behind")
		}
	}
	for _, n := range []int{801, 802, 4096, 1 << 16} {
		refused(t, "too long", ahead, strings.Repeat("x", n), api.ErrMany)
	}
	refused(t, "empty", ahead, "", api.ErrForm)
}

func TestL1OddRecords(t *testing.T) {
	for _, s := range odd() {
		for _, next := range odd() {
			f, _ := append1(t, formatted(t, 32), s)
			f, _ = append1(t, f, next)
			opens(t, "both", f, s, next)
		}
	}
}

// full is a flash of three blocks with one record and no room for another one.
func full(t *testing.T) api.Flash {
	t.Helper()
	f := formatted(t, 3)
	for n := 384; n > 0; n-- {
		if g, _, e := journal.Append(f, strings.Repeat("x", n)); e == api.OK {
			f = g
		}
	}
	return f
}

func TestL1TheErrorThatIsNamedFirst(t *testing.T) {
	empty, long := "", strings.Repeat("x", 801)
	short := formatted(t, 3)
	short.Blocks[2] = short.Blocks[2][:127]
	for _, c := range []struct {
		what string
		f    api.Flash
		want api.Errno
	}{
		{"no blocks", api.Flash{}, api.ErrRange},
		{"33 blocks", filled(33, 255), api.ErrRange},
		{"33 blocks of no bytes", api.Flash{Blocks: make([]string, 33)}, api.ErrRange},
		{"a short block", short, api.ErrForm},
		{"a long block", api.Flash{Blocks: []string{"", strings.Repeat("x", 129), ""}}, api.ErrForm},
	} {
		for _, s := range []string{"a", empty, long} {
			refused(t, c.what, c.f, s, c.want)
		}
		if l, e := journal.Open(c.f); len(l) > 0 || e != c.want {
			t.Errorf("%s: Open = %q, %d; must be %d", c.what, l, e, c.want)
		}
	}
	for what, f := range map[string]api.Flash{"right": formatted(t, 3), "not ours": filled(3, 0), "too few blocks": filled(2, 255), "one block": filled(1, 255), "full": full(t)} {
		refused(t, what, f, empty, api.ErrForm)
		refused(t, what, f, long, api.ErrMany)
	}
	refused(t, "full", full(t), "a", api.ErrSpace)
	refused(t, "too small", formatted(t, 3), strings.Repeat("x", 800), api.ErrSpace)
	// Of these the project's own way of writing tells that no Append wrote them; there is no room either.
	refused(t, "not ours", filled(3, 0), "a", api.ErrState)
	refused(t, "not ours", filled(3, 0), strings.Repeat("x", 800), api.ErrState)
	refused(t, "too few blocks", filled(2, 255), strings.Repeat("x", 800), api.ErrState)
}

// promised tells whether there must be room, if Append was asked to write records of that many bytes in all.
func promised(blocks, asked, bytes int) bool { return 256+8*asked+bytes <= 128*blocks }

// fill a flash with records of some length, and hold ErrSpace to be told only where it may.
func fill(t *testing.T, blocks, length int) {
	t.Helper()
	f := formatted(t, blocks)
	var all []string
	for {
		s := numbered(length, len(all))
		g, l, e := journal.Append(f, s)
		if e == api.ErrSpace {
			break
		}
		if e != api.OK {
			t.Fatalf("%d blocks, record %d of %d bytes: %d", blocks, len(all), length, e)
		}
		leads(t, f, l, g)
		f, all = g, append(all, s)
	}
	if promised(blocks, len(all)+1, (len(all)+1)*length) {
		t.Errorf("%d blocks: no room for %d records of %d bytes", blocks, len(all)+1, length)
	}
	opens(t, say(blocks, " blocks, records of ", length), f, all...)
}

func TestL1ErrSpaceOnlyWhereThereMayBeNone(t *testing.T) {
	for _, length := range []int{1, 2, 7, 8, 56, 119, 120, 121, 127, 128, 129, 248, 500, 800} {
		for blocks := 3; blocks <= 32; blocks++ {
			fill(t, blocks, length)
		}
	}
	for length := 1; length <= 380; length++ {
		fill(t, 3, length)
	}
}

func TestL1TheLastRecordThatIsPromisedRoom(t *testing.T) {
	for blocks := 3; blocks <= 32; blocks++ {
		f := formatted(t, blocks)
		var all []string
		for bytes := 0; ; {
			n := min(800, 128*blocks-256-8*(len(all)+1)-bytes)
			if n < 1 {
				break
			}
			s := numbered(n, blocks)
			f, _ = append1(t, f, s)
			all, bytes = append(all, s), bytes+n
		}
		opens(t, say(blocks, " blocks"), f, all...)
	}
}

// allowed holds what is answered of a flash to what may be answered of any that passes Check.
func allowed(t *testing.T, f api.Flash) {
	t.Helper()
	l, e := journal.Open(f)
	if e != api.OK && (e != api.ErrState || len(l) > 0) {
		t.Fatalf("Open = %q, %d of %q", l, e, f.Blocks)
	}
	for _, s := range []string{"a", strings.Repeat("x", 100), strings.Repeat("x", 800)} {
		g, d, e := journal.Append(f, s)
		if e == api.OK {
			leads(t, f, d, g)
		} else if e != api.ErrState && e != api.ErrSpace || len(g.Blocks) > 0 || len(d) > 0 {
			t.Fatalf("Append = %q, %v, %d of %q", g.Blocks, d, e, f.Blocks)
		}
	}
	refused(t, "whatever it is", f, "", api.ErrForm)
	refused(t, "whatever it is", f, strings.Repeat("x", 801), api.ErrMany)
}

// changed is a flash with another byte at a place.
func changed(f api.Flash, at int, b byte) api.Flash {
	f.Blocks = slices.Clone(f.Blocks)
	s := []byte(f.Blocks[at/128])
	s[at%128] = b
	f.Blocks[at/128] = string(s)
	return f
}

func TestL2FlashesThatAreNotOurs(t *testing.T) {
	for b := range 256 {
		for _, blocks := range []int{1, 2, 3, 32} {
			allowed(t, filled(blocks, byte(b)))
		}
	}
	f, _ := append1(t, formatted(t, 3), "some bytes")
	f, _ = append1(t, f, "and more")
	for at := range 384 {
		for _, b := range []byte{0, 1, 2, 85, 170, 252, 253, 254, 255} {
			allowed(t, changed(f, at, b))
			allowed(t, changed(formatted(t, 3), at, b))
		}
	}
}

// Behind the last record so few bytes are left that no other one finds room; what lies there is nobody's.
func TestL2FlashesThatAreNotOursNearTheirEnd(t *testing.T) {
	for n := 360; n < 384; n++ {
		f, _, e := journal.Append(formatted(t, 3), strings.Repeat("x", n))
		if e == api.ErrSpace {
			continue
		}
		for at := 384 - 24; at < 384; at++ {
			for _, b := range []byte{0, 1, 252, 254, 255} {
				allowed(t, changed(f, at, b))
				allowed(t, changed(changed(f, at, b), 383, 0))
			}
		}
	}
}

func TestL2FlashesThatAreNotOursDrawn(t *testing.T) {
	r := rand.New(rand.NewSource(2))
	for range 400 {
		f := formatted(t, 3+r.Intn(3))
		for range r.Intn(12) {
			if g, _, e := journal.Append(f, drawnRecord(r)); e == api.OK {
				f = g
			}
		}
		for range 1 + r.Intn(20) {
			f = changed(f, r.Intn(128*len(f.Blocks)), []byte{0, 1, 252, 254, 255, byte(r.Intn(256))}[r.Intn(6)])
			allowed(t, f)
		}
	}
}

func TestP2WhatIsHandedInIsOnlyReadAndNotKept(t *testing.T) {
	f, _ := append1(t, formatted(t, 4), "one")
	f, _ = append1(t, f, "two")
	was := slices.Clone(f.Blocks)
	spare := api.Flash{Blocks: f.Blocks[:3]}
	g, l, _ := journal.Append(spare, "three")
	h, m, _ := journal.Append(spare, "three")
	records, _ := journal.Open(spare)
	again, _ := journal.Open(spare)
	want := slices.Clone(h.Blocks)
	clear(g.Blocks[:cap(g.Blocks)])
	clear(l[:cap(l)])
	clear(records[:cap(records)])
	if !slices.Equal(f.Blocks, was) {
		t.Errorf("what was handed in is %q now", f.Blocks)
	}
	leads(t, spare, m, h)
	clear(f.Blocks)
	if !slices.Equal(h.Blocks, want) || !slices.Equal(again, []string{"one", "two"}) {
		t.Errorf("a change is seen: %q, %q", h.Blocks, again)
	}
	clear(formatted(t, 3).Blocks)
	opens(t, "a new one", formatted(t, 3))
}

func TestP3AnswersAreTheSameEachTime(t *testing.T) {
	f, _ := append1(t, formatted(t, 3), "one")
	first, l := append1(t, f, "two")
	for range 20 {
		after, m := append1(t, f, "two")
		if !slices.Equal(after.Blocks, first.Blocks) || !slices.Equal(l, m) {
			t.Fatalf("Append = %q, %v; it was %q, %v", after.Blocks, m, first.Blocks, l)
		}
		opens(t, "before", f, "one")
		opens(t, "after", after, "one", "two")
	}
}
