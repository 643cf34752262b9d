package gate_test

import (
	"math"
	"slices"
	"testing"

	"skolem/api"
	"skolem/gate"
	"skolem/graph"
)

// made is a Graph of so many inputs and these gates, each a new one.
func made(t *testing.T, inputs int, ands ...[2]int) *graph.Graph {
	t.Helper()
	g := graph.New(inputs)
	for i, and := range ands {
		if got, want := g.And(and[0], and[1]), 2*(inputs+i+1); got != want {
			t.Fatalf("And%v = %d, want %d", and, got, want)
		}
	}
	return g
}

// check looks whether g has these gates and this error, and got is want.
func check(t *testing.T, name string, g *graph.Graph, got, want int, ands [][2]int, err error) {
	t.Helper()
	if got != want || g.Err() != err || !slices.Equal(g.Circuit().Ands, ands) {
		t.Errorf("%s: %d of %v, %v, want %d of %v, %v", name, got, g.Circuit().Ands, g.Err(), want, ands, err)
	}
}

// row is literals, what a call answers of them on a new Graph of three inputs,
// and the gates that it makes.
type row struct {
	l    []int
	want int
	ands [][2]int
}

// checkRows looks at each row, f being the call.
func checkRows(t *testing.T, name string, rows []row, f func(g *graph.Graph, l []int) int) {
	t.Helper()
	for _, x := range rows {
		g := graph.New(3)
		got := f(g, x.l)
		check(t, name, g, got, x.want, x.ands, nil)
		if again := f(g, x.l); again != x.want || g.Len() != 3+len(x.ands) {
			t.Errorf("%s%v: again: %d of %d nodes", name, x.l, again, g.Len())
		}
	}
}

func or(g *graph.Graph, l []int) int  { return gate.Or(g, l[0], l[1]) }
func xor(g *graph.Graph, l []int) int { return gate.Xor(g, l[0], l[1]) }
func mux(g *graph.Graph, l []int) int { return gate.Mux(g, l[0], l[1], l[2]) }
func all(g *graph.Graph, l []int) int { return gate.All(g, l...) }
func one(g *graph.Graph, l []int) int { return gate.Any(g, l...) }

func TestOr(t *testing.T) {
	checkRows(t, "Or", []row{
		{[]int{2, 4}, 9, [][2]int{{5, 3}}},
		{[]int{4, 2}, 9, [][2]int{{5, 3}}},
		{[]int{3, 6}, 9, [][2]int{{7, 2}}},
		{[]int{5, 7}, 9, [][2]int{{6, 4}}},
		{[]int{0, 0}, 0, nil}, {[]int{0, 1}, 1, nil}, {[]int{1, 0}, 1, nil}, {[]int{1, 1}, 1, nil},
		{[]int{0, 5}, 5, nil}, {[]int{4, 0}, 4, nil}, {[]int{1, 5}, 1, nil}, {[]int{4, 1}, 1, nil},
		{[]int{4, 4}, 4, nil}, {[]int{5, 5}, 5, nil}, {[]int{4, 5}, 1, nil}, {[]int{5, 4}, 1, nil},
	}, or)
}

func TestXor(t *testing.T) {
	checkRows(t, "Xor", []row{
		{[]int{2, 4}, 12, [][2]int{{4, 2}, {5, 3}, {11, 9}}},
		{[]int{4, 2}, 12, [][2]int{{4, 2}, {5, 3}, {11, 9}}},
		{[]int{3, 4}, 12, [][2]int{{4, 3}, {5, 2}, {11, 9}}},
		{[]int{7, 5}, 12, [][2]int{{7, 5}, {6, 4}, {11, 9}}},
		{[]int{0, 0}, 0, nil}, {[]int{0, 1}, 1, nil}, {[]int{1, 0}, 1, nil}, {[]int{1, 1}, 0, nil},
		{[]int{0, 5}, 5, nil}, {[]int{4, 0}, 4, nil}, {[]int{1, 5}, 4, nil}, {[]int{4, 1}, 5, nil},
		{[]int{4, 4}, 0, nil}, {[]int{5, 5}, 0, nil}, {[]int{4, 5}, 1, nil}, {[]int{5, 4}, 1, nil},
	}, xor)
}

func TestMux(t *testing.T) {
	checkRows(t, "Mux", []row{
		{[]int{2, 4, 6}, 13, [][2]int{{4, 2}, {6, 3}, {11, 9}}},
		{[]int{3, 4, 6}, 13, [][2]int{{4, 3}, {6, 2}, {11, 9}}},
		{[]int{6, 5, 3}, 13, [][2]int{{6, 5}, {7, 3}, {11, 9}}},
		{[]int{2, 4, 5}, 13, [][2]int{{4, 2}, {5, 3}, {11, 9}}},
		{[]int{2, 4, 4}, 13, [][2]int{{4, 2}, {4, 3}, {11, 9}}}, // no less than it is
		{[]int{1, 4, 6}, 4, nil}, {[]int{0, 4, 6}, 6, nil}, {[]int{1, 0, 1}, 0, nil}, {[]int{0, 0, 1}, 1, nil},
		{[]int{4, 1, 0}, 4, nil}, {[]int{4, 0, 1}, 5, nil}, {[]int{4, 1, 1}, 1, nil}, {[]int{4, 0, 0}, 0, nil},
		{[]int{4, 4, 5}, 1, nil}, {[]int{4, 5, 4}, 0, nil},
		{[]int{4, 4, 0}, 4, nil}, {[]int{4, 2, 0}, 8, [][2]int{{4, 2}}}, {[]int{4, 0, 2}, 8, [][2]int{{5, 2}}},
		{[]int{4, 1, 2}, 11, [][2]int{{5, 2}, {9, 5}}},
	}, mux)
}

func TestAll(t *testing.T) {
	checkRows(t, "All", []row{
		{nil, 1, nil}, {[]int{}, 1, nil}, {[]int{0}, 0, nil}, {[]int{1}, 1, nil}, {[]int{4}, 4, nil}, {[]int{5}, 5, nil},
		{[]int{4, 1, 4, 4}, 4, nil}, {[]int{4, 5, 2, 6}, 0, nil}, {[]int{1, 1, 1}, 1, nil},
		{[]int{2, 4}, 8, [][2]int{{4, 2}}},
		{[]int{2, 4, 6}, 10, [][2]int{{4, 2}, {8, 6}}},
		{[]int{6, 4, 2}, 10, [][2]int{{6, 4}, {8, 2}}},
		{[]int{7, 2, 7, 5}, 12, [][2]int{{7, 2}, {8, 7}, {10, 5}}}, // it stands twice
		{[]int{2, 4, 0, 6}, 0, [][2]int{{4, 2}}},
		{[]int{2, 4, 8}, 8, [][2]int{{4, 2}}}, // the one that it makes itself
		{[]int{2, 4, 9, 6}, 0, [][2]int{{4, 2}}},
	}, all)
}

func TestAny(t *testing.T) {
	checkRows(t, "Any", []row{
		{nil, 0, nil}, {[]int{}, 0, nil}, {[]int{0}, 0, nil}, {[]int{1}, 1, nil}, {[]int{4}, 4, nil}, {[]int{5}, 5, nil},
		{[]int{4, 0, 4, 4}, 4, nil}, {[]int{4, 5, 2, 6}, 1, nil}, {[]int{0, 0, 0}, 0, nil},
		{[]int{2, 4}, 9, [][2]int{{5, 3}}},
		{[]int{2, 4, 6}, 11, [][2]int{{5, 3}, {8, 7}}},
		{[]int{6, 4, 2}, 11, [][2]int{{7, 5}, {8, 3}}},
		{[]int{3, 5, 7}, 11, [][2]int{{4, 2}, {8, 6}}},
		{[]int{2, 4, 1, 6}, 1, [][2]int{{5, 3}}},
		{[]int{2, 4, 9}, 9, [][2]int{{5, 3}}},
	}, one)
}

func TestClauses(t *testing.T) {
	for _, x := range []struct {
		c    [][]int
		want int
		ands [][2]int
	}{
		{nil, 1, nil}, {[][]int{}, 1, nil}, {[][]int{{}}, 0, nil}, {[][]int{nil, nil}, 0, nil},
		{[][]int{{1}}, 2, nil}, {[][]int{{-1}}, 3, nil}, {[][]int{{3}}, 6, nil}, {[][]int{{-3}}, 7, nil},
		{[][]int{{2, -2}}, 1, nil}, {[][]int{{2}, {-2}}, 0, nil}, {[][]int{{2, 2}, {2}}, 4, nil},
		{[][]int{{1, -2}}, 9, [][2]int{{4, 3}}},
		{[][]int{{-1}, {-3}}, 8, [][2]int{{7, 3}}},
		{[][]int{{1, 2, 3}}, 11, [][2]int{{5, 3}, {8, 7}}},
		{[][]int{{3, 2, 1}}, 11, [][2]int{{7, 5}, {8, 3}}},
		// each clause first, and then all of them
		{[][]int{{1, 2}, {-1, 3}, {-2, -3}}, 16, [][2]int{{5, 3}, {7, 2}, {6, 4}, {11, 9}, {14, 13}}},
		{[][]int{{-2, -3}, {-1, 3}, {1, 2}}, 16, [][2]int{{6, 4}, {7, 2}, {5, 3}, {11, 9}, {14, 13}}},
		// a clause of nothing spares no other one
		{[][]int{{}, {1, 2}}, 0, [][2]int{{5, 3}}},
		{[][]int{{1, 2}, {}, {1, 3}}, 0, [][2]int{{5, 3}, {7, 3}}},
		// a clause twice, in another order
		{[][]int{{1, 2}, {2, 1}, {1, 2}}, 9, [][2]int{{5, 3}}},
	} {
		g := graph.New(3)
		check(t, "Clauses", g, gate.Clauses(g, x.c), x.want, x.ands, nil)
	}
}

// TestThere: a gate that is there is taken, and what is new stands behind it.
func TestThere(t *testing.T) {
	ands := [][2]int{{5, 3}, {6, 4}, {4, 2}}
	g := made(t, 3, ands...)
	check(t, "Or", g, gate.Or(g, 2, 4), 9, ands, nil)
	check(t, "All", g, gate.All(g, 6, 4), 10, ands, nil)
	check(t, "Any", g, gate.Any(g, 5, 7), 11, ands, nil)
	ands = append(ands, [2]int{13, 9})
	check(t, "Xor", g, gate.Xor(g, 4, 2), 14, ands, nil)
	check(t, "Xor, again", g, gate.Xor(g, 5, 3), 14, ands, nil)
	ands = append(ands, [2]int{7, 5}, [2]int{16, 15})
	check(t, "All of gates", g, gate.All(g, 7, 5, 15), 18, ands, nil)
	ands = append(ands, [2]int{13, 11})
	check(t, "Clauses", g, gate.Clauses(g, [][]int{{-1, -2}, {-2, -3}}), 20, ands, nil)
}

// worth is whether literal l of g is true, where n's bits are the inputs.
func worth(g *graph.Graph, l, n int) bool {
	out := []bool{false, true}
	for i := range g.Inputs() {
		is := n>>i&1 == 1
		out = append(out, is, !is)
	}
	for _, and := range g.Circuit().Ands {
		is := out[and[0]] && out[and[1]]
		out = append(out, is, !is)
	}
	return out[l]
}

// lists calls f with all lists of up to most of the numbers from low to high.
func lists(low, high, most int, f func(l []int)) {
	var grow func(l []int)
	grow = func(l []int) {
		f(slices.Clone(l))
		if len(l) == most {
			return
		}
		for x := low; x <= high; x++ {
			grow(append(slices.Clone(l), x))
		}
	}
	grow(nil)
}

// count is how many of l, literals of g, are true, where n's bits are the inputs.
func count(g *graph.Graph, l []int, n int) int {
	out := 0
	for _, each := range l {
		if worth(g, each, n) {
			out++
		}
	}
	return out
}

// TestWorth holds what each gate is worth against the words, for all short
// lists of the literals of two inputs and a gate, and all their values.
func TestWorth(t *testing.T) {
	checkWorth := func(name string, f func(*graph.Graph, []int) int, l []int, want func(g *graph.Graph, n int) bool) {
		g := made(t, 2, [2]int{5, 2})
		got := f(g, l)
		for n := range 4 {
			if worth(g, got, n) != want(g, n) || g.Err() != nil {
				t.Fatalf("%s%v = %d, of %v, where inputs are %b, %v", name, l, got, g.Circuit(), n, g.Err())
			}
		}
	}
	lists(0, 7, 3, func(l []int) {
		checkWorth("All", all, l, func(g *graph.Graph, n int) bool { return count(g, l, n) == len(l) })
		checkWorth("Any", one, l, func(g *graph.Graph, n int) bool { return count(g, l, n) > 0 })
		switch len(l) {
		case 2:
			checkWorth("Or", or, l, func(g *graph.Graph, n int) bool { return count(g, l, n) > 0 })
			checkWorth("Xor", xor, l, func(g *graph.Graph, n int) bool { return count(g, l, n) == 1 })
		case 3:
			checkWorth("Mux", mux, l, func(g *graph.Graph, n int) bool {
				if worth(g, l[0], n) {
					return worth(g, l[1], n)
				}
				return worth(g, l[2], n)
			})
		}
	})
}

// holds tells whether all clauses are true, where n's bits are the variables.
func holds(c [][]int, n int) bool {
	for _, clause := range c {
		is := false
		for _, l := range clause {
			v := max(l, -l)
			is = is || (n>>(v-1)&1 == 1) == (l > 0)
		}
		if !is {
			return false
		}
	}
	return true
}

// TestClausesWorth holds what Clauses is worth against the clauses, for all
// pairs of short clauses of two variables, and all their values.
func TestClausesWorth(t *testing.T) {
	var some [][]int
	lists(-2, 2, 3, func(l []int) {
		if !slices.Contains(l, 0) {
			some = append(some, l)
		}
	})
	for _, a := range some {
		for _, b := range some {
			g := graph.New(2)
			got := gate.Clauses(g, [][]int{a, b})
			for n := range 4 {
				if worth(g, got, n) != holds([][]int{a, b}, n) || g.Err() != nil {
					t.Fatal(a, b, n, got, g.Circuit(), g.Err())
				}
			}
		}
	}
}

// TestWrong: of what is no literal the graph has ErrRange, and each gate is what
// its And answers then.
func TestWrong(t *testing.T) {
	for _, l := range []int{-1, -2, 12, 13, 14, 1 << 40, math.MinInt, math.MinInt + 1, math.MaxInt, math.MaxInt - 1} {
		for i, x := range []struct {
			f    func(*graph.Graph, []int) int
			l    []int
			want int
			ands [][2]int
		}{
			{or, []int{l, 2}, 1, nil}, {or, []int{2, l}, 1, nil}, {or, []int{l, 1}, 1, nil}, {or, []int{l, l}, 1, nil},
			{xor, []int{l, 2}, 1, nil}, {xor, []int{2, l}, 1, nil}, {xor, []int{l, 0}, 1, nil},
			{mux, []int{l, 2, 4}, 0, nil}, {mux, []int{2, l, 4}, 8, [][2]int{{4, 3}}}, {mux, []int{2, 4, l}, 8, [][2]int{{4, 2}}},
			{mux, []int{1, 4, l}, 4, nil}, {mux, []int{0, l, 4}, 4, nil},
			{all, []int{l}, 0, nil}, {all, []int{2, l}, 0, nil}, {all, []int{l, 2}, 0, nil},
			{all, []int{2, 4, l, 6}, 0, [][2]int{{4, 2}}}, {all, []int{0, l}, 0, nil},
			{one, []int{l}, 1, nil}, {one, []int{2, l}, 1, nil}, {one, []int{l, 2}, 1, nil},
			{one, []int{2, 4, l, 6}, 1, [][2]int{{5, 3}}}, {one, []int{1, l}, 1, nil},
		} {
			g := graph.New(3)
			got := x.f(g, x.l)
			if got != x.want || g.Err() != api.ErrRange || !slices.Equal(g.Circuit().Ands, x.ands) {
				t.Errorf("%d: of %v: %d of %v, %v", i, x.l, got, g.Circuit().Ands, g.Err())
			}
		}
	}
}

// TestEdge: what is just behind the last literal is none, but one of a gate that
// the call itself has made is one.
func TestEdge(t *testing.T) {
	for _, l := range []int{8, 9} {
		g := graph.New(3)
		check(t, "Or", g, gate.Or(g, 7, l), 1, nil, api.ErrRange)
		g = graph.New(3)
		check(t, "All", g, gate.All(g, l, 2), 0, nil, api.ErrRange)
		g = graph.New(3)
		check(t, "Mux", g, gate.Mux(g, 2, 4, l), 13, [][2]int{{4, 2}, {l, 3}, {11, 9}}, nil)
	}
}

// TestWrongClauses: a variable that is no input is ErrRange, and stands for 0.
func TestWrongClauses(t *testing.T) {
	for _, v := range []int{4, 5, 4000, 1 << 40, math.MaxInt} {
		for _, x := range []struct {
			c    [][]int
			want int
			ands [][2]int
		}{
			{[][]int{{v}}, 0, nil}, {[][]int{{-v}}, 1, nil},
			{[][]int{{2}, {-v}}, 4, nil}, {[][]int{{2, v}}, 4, nil},
			{[][]int{{1, v, 2}, {1, 3}}, 12, [][2]int{{5, 3}, {7, 3}, {11, 9}}},
			{[][]int{{v}, {1, 3}}, 0, [][2]int{{7, 3}}},
		} {
			g := graph.New(3)
			check(t, "Clauses", g, gate.Clauses(g, x.c), x.want, x.ands, api.ErrRange)
		}
	}
	for _, c := range [][][]int{{{0}}, {{1, 2, 3}, {1, 0}}, {{math.MinInt}}, {{1}, {}, {0}}} {
		g := graph.New(3)
		gate.Clauses(g, c)
		if g.Err() != api.ErrRange {
			t.Errorf("Clauses(%v): %v", c, g.Err())
		}
	}
	g := graph.New(0)
	check(t, "Clauses of no inputs", g, gate.Clauses(g, [][]int{{1}}), 0, nil, api.ErrRange)
}

// TestLimit: ErrLimit where one gate is too many, those ahead of it stay, and
// the rest is made of a 0.
func TestLimit(t *testing.T) {
	const most = api.MaxNodes
	for i, x := range []struct {
		f    func(*graph.Graph, []int) int
		l    []int
		room int
		want int
		ands [][2]int
		err  error
	}{
		{or, []int{2, 4}, 0, 1, nil, api.ErrLimit},
		{or, []int{2, 4}, 1, 2*most + 1, [][2]int{{5, 3}}, nil},
		{or, []int{2, 2}, 0, 2, nil, nil},
		{xor, []int{2, 4}, 0, 1, nil, api.ErrLimit},
		{xor, []int{2, 4}, 1, 2*most + 1, [][2]int{{4, 2}}, api.ErrLimit},
		{xor, []int{2, 4}, 2, 0, [][2]int{{4, 2}, {5, 3}}, api.ErrLimit},
		{xor, []int{2, 4}, 3, 2 * most, [][2]int{{4, 2}, {5, 3}, {2*most - 1, 2*most - 3}}, nil},
		{mux, []int{2, 4, 6}, 1, 2 * most, [][2]int{{4, 2}}, api.ErrLimit},
		{mux, []int{2, 4, 6}, 2, 1, [][2]int{{4, 2}, {6, 3}}, api.ErrLimit},
		{all, []int{2, 4, 6}, 1, 0, [][2]int{{4, 2}}, api.ErrLimit},
		{all, []int{2, 4, 6}, 2, 2 * most, [][2]int{{4, 2}, {2*most - 2, 6}}, nil},
		{one, []int{2, 4, 6}, 1, 1, [][2]int{{5, 3}}, api.ErrLimit},
		{one, []int{2, 4, 6, 4}, 0, 1, nil, api.ErrLimit},
	} {
		g := graph.New(most - x.room)
		got := x.f(g, x.l)
		if got != x.want || g.Err() != x.err || !slices.Equal(g.Circuit().Ands, x.ands) {
			t.Errorf("%d: %d of %v, %v, want %d of %v, %v", i, got, g.Circuit().Ands, g.Err(), x.want, x.ands, x.err)
		}
	}
	g := graph.New(most - 1)
	check(t, "Clauses", g, gate.Clauses(g, [][]int{{1, 2}, {3, 4}}), 2*most+1, [][2]int{{5, 3}}, api.ErrLimit)
	// the first error stays
	check(t, "Or, later", g, gate.Or(g, -1, 2), 1, [][2]int{{5, 3}}, api.ErrLimit)
}

// TestMany: as many literals as may be, one gate each but the first.
func TestMany(t *testing.T) {
	const n = api.MaxNodes / 2
	var l []int
	var clause []int
	for i := range n {
		l = append(l, 2*i+2)
		clause = append(clause, i+1)
	}
	g := graph.New(n)
	if got := gate.All(g, l...); got != 2*(2*n-1) || g.Err() != nil || g.Len() != 2*n-1 {
		t.Error("All:", got, g.Len(), g.Err())
	}
	g = graph.New(n)
	if got := gate.Clauses(g, [][]int{clause, {1}}); got != 2*(2*n) || g.Err() != nil || g.Len() != 2*n {
		t.Error("Clauses:", got, g.Len(), g.Err())
	}
	// some make no gate, however many there are
	if got := gate.Clauses(graph.New(2), slices.Repeat([][]int{{2, 2, 2}, {1, -1}}, 50000)); got != 4 {
		t.Error("many clauses:", got)
	}
}

// TestMemory: what is handed in is neither changed nor kept, nor is what lies
// behind it read or written.
func TestMemory(t *testing.T) {
	g := graph.New(3)
	l, behind := []int{2, 5, 99, -1}, []int{2, 5, 99, -1}
	gate.All(g, l[:2]...)
	gate.Any(g, l[:2]...)
	if !slices.Equal(l, behind) || g.Err() != nil || !slices.Equal(g.Circuit().Ands, [][2]int{{5, 2}, {4, 3}}) {
		t.Error(l, g.Err(), g.Circuit())
	}
	a, b := []int{1, -2, 99, 0}, []int{3, 99}
	c := [][]int{a[:2], b[:1], {99}, {0}}
	got := gate.Clauses(g, c[:2])
	if !slices.Equal(a, []int{1, -2, 99, 0}) || !slices.Equal(b, []int{3, 99}) || len(c[0]) != 2 || c[2][0] != 99 || g.Err() != nil {
		t.Error(a, b, c, g.Err())
	}
	a[0], b[0], c[0] = 2, 2, nil
	if got != 12 || !slices.Equal(g.Circuit().Ands, [][2]int{{5, 2}, {4, 3}, {11, 6}}) {
		t.Error(got, g.Circuit())
	}
}
