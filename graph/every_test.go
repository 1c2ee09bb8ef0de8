package graph_test

import (
	"math/rand"
	"slices"
	"testing"

	"shipfitter/api"
	"shipfitter/graph"
)

// web tells of modules, by their numbers, who asks whom.
type web [][]bool

// through is the web with all ways through others.
func (w web) through() web {
	all := make(web, len(w))
	for i := range w {
		all[i] = slices.Clone(w[i])
	}
	for via := range all {
		for from := range all {
			for to := range all {
				all[from][to] = all[from][to] || all[from][via] && all[via][to]
			}
		}
	}
	return all
}

// placed are modules of a web, of these names.
func (w web) placed(names []string) []api.Placed {
	var l []api.Placed
	for from := range w {
		var others []string
		for to, asks := range w[from] {
			if asks {
				others = append(others, names[to])
			}
		}
		l = append(l, one(names[from], others...))
	}
	return l
}

// behind tells whether numbers that stand in a row stand behind all that they ask.
func (w web) behind(row []int) bool {
	for i, n := range row {
		for to, asks := range w[n] {
			if asks && !slices.Contains(row[:i], to) {
				return false
			}
		}
	}
	return true
}

// leastRow of all rows in which each stands behind all that it asks: of rows that begin alike the one that goes on with a lesser name. Nil, if there is none.
func (w web) leastRow(names []string, row []int) []int {
	if len(row) == len(w) {
		if w.behind(row) {
			return row
		}
		return nil
	}
	var left []int
	for i := range w {
		if !slices.Contains(row, i) {
			left = append(left, i)
		}
	}
	slices.SortFunc(left, func(a, b int) int {
		if names[a] < names[b] {
			return -1
		}
		return 1
	})
	for _, i := range left {
		if found := w.leastRow(names, append(slices.Clone(row), i)); found != nil {
			return found
		}
	}
	return nil
}

// named are the names of those of which a number tells, rising.
func named(names []string, is func(i int) bool) []string {
	var some []string
	for i, n := range names {
		if is(i) {
			some = append(some, n)
		}
	}
	slices.Sort(some)
	return some
}

// holds the package against a web.
func holds(t *testing.T, w web, names []string) {
	t.Helper()
	names = names[:len(w)]
	l, all := w.placed(names), w.through()
	round := false
	for i, n := range names {
		needs(t, l, n, api.OK, named(names, func(to int) bool { return all[i][to] })...)
		users(t, l, n, api.OK, named(names, func(from int) bool { return all[from][i] })...)
		round = round || all[i][i]
	}
	if round {
		order(t, l, api.ErrState)
		return
	}
	var want []string
	for _, i := range w.leastRow(names, []int{}) {
		want = append(want, names[i])
	}
	order(t, l, api.OK, want...)
}

func TestE1EveryWebOfUpToThree(t *testing.T) {
	for _, names := range [][]string{words("a", "b", "c"), words("c", "a", "b"), words("b", "c", "a"), words("c", "b", "a")} {
		for n := 1; n <= 3; n++ {
			for bits := range 1 << (n * n) {
				w := make(web, n)
				for i := range n * n {
					w[i/n] = append(w[i/n], bits>>i&1 == 1)
				}
				holds(t, w, names)
			}
		}
	}
}

// drawn is a web of so many; of those ahead no one asks one behind, if it has no rounds.
func drawn(r *rand.Rand, n, of int, rounds bool) web {
	turn := r.Perm(n)
	w := make(web, n)
	for i := range w {
		w[i] = make([]bool, n)
		asked := 0
		for _, to := range r.Perm(n) {
			w[i][to] = r.Intn(of) == 0 && asked < api.MaxImports && (rounds || turn[to] < turn[i])
			if w[i][to] {
				asked++
			}
		}
	}
	return w
}

func TestE1SomeWebsOfMore(t *testing.T) {
	r := rand.New(rand.NewSource(5))
	for i := range 600 {
		names := words("a", "a0", "a_b", "ab", "b", "kernel_", "lib", "z")
		r.Shuffle(len(names), func(i, j int) { names[i], names[j] = names[j], names[i] })
		holds(t, drawn(r, 4+r.Intn(4), 2+i%5, i%3 == 0), names)
		holds(t, drawn(r, 8, 8, true), names)
	}
}

func TestE2OneNeedsAnotherJustIfThatOneIsUsedByIt(t *testing.T) {
	r := rand.New(rand.NewSource(7))
	names := words("a", "b", "c", "d", "e", "f", "g", "h")
	for i := range 500 {
		l := drawn(r, 8, 2+i%8, true).placed(names)
		for _, one := range names {
			needed, e := graph.Needs(l, one)
			for _, other := range names {
				using, f := graph.Users(l, other)
				if e != api.OK || f != api.OK || slices.Contains(needed, other) != slices.Contains(using, one) {
					t.Fatalf("%v: %s needs %v, %d; %s is used by %v, %d", l, one, needed, e, other, using, f)
				}
			}
		}
	}
}
