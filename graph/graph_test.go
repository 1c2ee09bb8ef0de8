package graph_test

import (
	"fmt"
	"math"
	"reflect"
	"slices"
	"strings"
	"testing"

	"shipfitter/api"
	"shipfitter/graph"
)

// faults of what is placed, in the order in which E1 names them.
func faults() []fault {
	return []fault{
		{"many", api.ErrMany, func(w *world) { w.l = append(w.l, make([]api.Placed, 5)...) }},
		{"the first one's name", api.ErrForm, func(w *world) { w.l[0].Module.Name = "kernel" }},
		{"the second one's version", api.ErrRange, func(w *world) { w.l[1].Module.Major = 256 }},
		{"the third one's bytes", api.ErrMany, func(w *world) { w.l[2].Module.Text = strings.Repeat("abcd", 65) }},
		{"the fourth one's patch", api.ErrKind, func(w *world) { w.l[3].Module.Patches[0].Kind = 6 }},
		{"two of one name", api.ErrTwice, func(w *world) { w.l[2].Module.Name = "low" }},
	}
}

// eachFault tells of each fault by itself, and beside each one that is named behind it.
func eachFault(all []fault, tell func(want api.Errno, w world)) {
	for i, first := range all {
		tell(first.want, changed(first.change))
		for _, later := range all[i+1:] {
			tell(first.want, changed(first.change, later.change))
			tell(first.want, changed(later.change, first.change))
		}
	}
}

func TestE1NeedsAndUsersTheErrorThatIsNamedFirst(t *testing.T) {
	none := fault{"no such module", api.ErrNone, func(w *world) { w.name = "none" }}
	eachFault(append(faults(), none), func(want api.Errno, w world) {
		t.Helper()
		needs(t, w.l, w.name, want)
		users(t, w.l, w.name, want)
	})
}

func TestE1OrderTheErrorThatIsNamedFirst(t *testing.T) {
	round := fault{"one needs itself", api.ErrState, func(w *world) {
		w.l[1].Module.Imports = append(w.l[1].Module.Imports, api.Import{Module: "top", Name: "f"})
	}}
	eachFault(append(faults(), round), func(want api.Errno, w world) {
		t.Helper()
		order(t, w.l, want)
	})
}

func TestE1WhatIsWrongWithAnyModuleIsToldAheadOfTwo(t *testing.T) {
	l := []api.Placed{one("a"), one("a"), {Module: api.Module{Name: "b", Text: "abc"}}}
	needs(t, l, "a", api.ErrForm)
	users(t, l, "c", api.ErrForm)
	order(t, l, api.ErrForm)
	needs(t, l[:2], "a", api.ErrTwice)
	users(t, l[:2], "c", api.ErrTwice)
	order(t, l[:2], api.ErrTwice)
	far := []api.Placed{one("a"), one("b"), one("c", "c"), one("b")}
	needs(t, far, "a", api.ErrTwice)
	users(t, far, "a", api.ErrTwice)
	order(t, far, api.ErrTwice)
}

func TestE1HowManyThereMayBe(t *testing.T) {
	for n := range 20 {
		var l []api.Placed
		var all []string
		e := api.OK
		for i := range n {
			all = append(all, fmt.Sprintf("m%02d", i))
			l = append(l, one(all[i]))
			if i > 0 {
				l[i] = one(all[i], all[i-1])
			}
		}
		if n > 8 {
			all, e = nil, api.ErrMany
		}
		order(t, l, e, all...)
		if n == 0 {
			needs(t, l, "m00", api.ErrNone)
			users(t, l, "m00", api.ErrNone)
			continue
		}
		needs(t, l, "m00", e)
		users(t, l, "m00", e, all[min(1, len(all)):]...)
		if n <= 8 {
			needs(t, l, all[n-1], e, all[:n-1]...)
			users(t, l, all[n-1], e)
		}
	}
}

func TestE1Needs(t *testing.T) {
	l := sample().l
	needs(t, l, "top", api.OK, "low", "mid")
	needs(t, l, "mid", api.OK, "low")
	needs(t, l, "low", api.OK)
	needs(t, l, "alone", api.OK)
	for _, name := range []string{"kernel", "none", "", "to", "topp", "TOP", "f"} {
		needs(t, l, name, api.ErrNone)
	}
}

func TestE1Users(t *testing.T) {
	l := sample().l
	users(t, l, "low", api.OK, "mid", "top")
	users(t, l, "mid", api.OK, "top")
	users(t, l, "top", api.OK)
	users(t, l, "alone", api.OK)
	for _, name := range []string{"kernel", "none", "", "lo", "loww", "LOW", "f"} {
		users(t, l, name, api.ErrNone)
	}
}

func TestE1OneThatNeedsItself(t *testing.T) {
	self := []api.Placed{one("a", "a"), one("b", "a"), one("c")}
	needs(t, self, "a", api.OK, "a")
	needs(t, self, "b", api.OK, "a")
	users(t, self, "a", api.OK, "a", "b")
	users(t, self, "b", api.OK)
	order(t, self, api.ErrState)
	round := []api.Placed{one("c", "a"), one("a", "b"), one("b", "c"), one("in", "a"), one("out"), one("z", "out")}
	needs(t, round, "a", api.OK, "a", "b", "c")
	needs(t, round, "in", api.OK, "a", "b", "c")
	needs(t, round, "z", api.OK, "out")
	users(t, round, "a", api.OK, "a", "b", "c", "in")
	users(t, round, "out", api.OK, "z")
	users(t, round, "in", api.OK)
	order(t, round, api.ErrState)
}

func TestE1WhatIsImportedIsNotAsked(t *testing.T) {
	user := one("a", "b")
	user.Module.Imports = []api.Import{{Module: "b", Name: "no", Major: 255, Minor: 255}, {Module: "b", Name: "f"}, {Module: "none", Name: "b"}, {Module: "kernel", Name: "c"}}
	l := []api.Placed{user, one("b"), one("c")}
	l[0].First, l[1].First, l[2].First = math.MinInt, math.MaxInt, math.MaxInt
	needs(t, l, "a", api.OK, "b")
	users(t, l, "b", api.OK, "a")
	users(t, l, "c", api.OK)
	order(t, l, api.OK, "b", "a", "c")
}

func TestE1NamesRiseByteByByte(t *testing.T) {
	rising := words("a", "a0", "a9", "a_", "aa", "ab", "b")
	l := []api.Placed{one("ab"), one("a_"), one("b"), one("a"), one("aa"), one("a9"), one("a0"), one("z", "ab", "b", "a0", "a", "aa", "a_")}
	l[5] = one("a9", "z")
	l[0] = one("ab", "a9")
	needs(t, l, "a9", api.OK, append(slices.Clone(rising), "z")...)
	users(t, l, "b", api.OK, "a9", "ab", "z")
	order(t, l[:5], api.OK, "a", "a_", "aa", "ab", "b")
	l = []api.Placed{one("ab", "x"), one("a_", "x"), one("b", "x"), one("a", "x"), one("aa", "x"), one("a9", "x"), one("a0", "x"), one("x")}
	users(t, l, "x", api.OK, rising...)
	order(t, l, api.OK, append(words("x"), rising...)...)
}

func TestE1OrderTheLeastThatMayStandNext(t *testing.T) {
	order(t, nil, api.OK)
	order(t, []api.Placed{}, api.OK)
	order(t, sample().l, api.OK, "alone", "low", "mid", "top")
	order(t, []api.Placed{one("a", "z"), one("b"), one("c"), one("z", "c")}, api.OK, "b", "c", "z", "a")
	order(t, []api.Placed{one("d"), one("b", "d"), one("a", "b", "c"), one("c")}, api.OK, "c", "d", "b", "a")
	order(t, []api.Placed{one("z", "y"), one("y"), one("x", "y"), one("w")}, api.OK, "w", "y", "x", "z")
}

func TestP1NothingPanicsWhateverIsHandedIn(t *testing.T) {
	for _, l := range [][]api.Placed{make([]api.Placed, 1), make([]api.Placed, 8), make([]api.Placed, 1<<16), {{First: math.MinInt}}, {one("a"), {}}} {
		for _, name := range []string{"", "a", "kernel", strings.Repeat("a", 1<<16), "\xff\x00"} {
			a, e := graph.Needs(l, name)
			b, f := graph.Users(l, name)
			c, g := graph.Order(l)
			if len(a)+len(b)+len(c) > 0 || e == api.OK || f == api.OK || g == api.OK {
				t.Errorf("%v, %d; %v, %d; %v, %d", a, e, b, f, c, g)
			}
		}
	}
}

func TestP2WhatIsHandedInIsOnlyRead(t *testing.T) {
	l := append(sample().l, one("top", "top"))
	was := copied(l)
	a, _ := graph.Needs(l[:4], "top")
	b, _ := graph.Users(l[:4], "low")
	c, _ := graph.Order(l[:4])
	clear(a[:cap(a)])
	clear(b[:cap(b)])
	clear(c[:cap(c)])
	if !reflect.DeepEqual(l, was) {
		t.Errorf("what was handed in is %v now; it was %v", l, was)
	}
	needs(t, l[:4], "top", api.OK, "low", "mid")
	users(t, l[:4], "low", api.OK, "mid", "top")
	order(t, l[:4], api.OK, "alone", "low", "mid", "top")
}

func TestP3AnswersAreTheSameEachTime(t *testing.T) {
	for range 50 {
		l := copied(sample().l)
		needs(t, l, "top", api.OK, "low", "mid")
		users(t, l, "low", api.OK, "mid", "top")
		order(t, l, api.OK, "alone", "low", "mid", "top")
		l[1].Module.Imports = []api.Import{{Module: "top", Name: "f"}}
		order(t, l, api.ErrState)
	}
}
