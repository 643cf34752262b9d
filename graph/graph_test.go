package graph_test

import (
	"math"
	"slices"
	"testing"

	"skolem/api"
	"skolem/graph"
)

// circuit is one of so many inputs, these gates and these Outs.
func circuit(inputs int, ands [][2]int, outs ...int) api.Circuit {
	return api.Circuit{Inputs: inputs, Ands: ands, Outs: outs}
}

// same tells whether a and b are the same circuit.
func same(a, b api.Circuit) bool {
	return a.Inputs == b.Inputs && slices.Equal(a.Ands, b.Ands) && slices.Equal(a.Outs, b.Outs)
}

// made is a Graph of so many inputs and these gates, each a new one.
func made(t *testing.T, inputs int, ands ...[2]int) *graph.Graph {
	t.Helper()
	g := graph.New(inputs)
	for i, and := range ands {
		if got, want := g.And(and[0], and[1]), 2*(inputs+i+1); got != want {
			t.Fatalf("And%v = %d, want %d", and, got, want)
		}
	}
	return g
}

// check looks whether g is of so many inputs, these gates and this error.
func check(t *testing.T, name string, g *graph.Graph, inputs int, ands [][2]int, err error) {
	t.Helper()
	if g.Inputs() != inputs || g.Len() != inputs+len(ands) || g.Err() != err {
		t.Errorf("%s: %d inputs, %d nodes, %v, want %d, %d, %v", name, g.Inputs(), g.Len(), g.Err(), inputs, inputs+len(ands), err)
	}
	if c := g.Circuit(); !same(c, circuit(inputs, ands)) {
		t.Errorf("%s: Circuit: %v", name, c)
	}
}

func TestNew(t *testing.T) {
	for _, x := range []struct{ inputs, want int }{
		{0, 0}, {1, 1}, {2, 2}, {77, 77}, {api.MaxNodes - 1, api.MaxNodes - 1}, {api.MaxNodes, api.MaxNodes},
		{-1, 0}, {math.MinInt, 0}, {api.MaxNodes + 1, api.MaxNodes}, {2 * api.MaxNodes, api.MaxNodes}, {math.MaxInt, api.MaxNodes},
	} {
		g := graph.New(x.inputs)
		check(t, "New", g, x.want, nil, nil)
		for i := range x.want {
			if l := g.Input(i); l != 2*i+2 {
				t.Errorf("New(%d): input %d is %d", x.inputs, i, l)
			}
		}
		if g.Err() != nil || g.Input(x.want) != 0 || g.Err() != api.ErrRange {
			t.Errorf("New(%d): an input behind the last: %v", x.inputs, g.Err())
		}
	}
}

func TestInput(t *testing.T) {
	for _, x := range []struct{ inputs, i, want int }{
		{1, 0, 2}, {3, 0, 2}, {3, 1, 4}, {3, 2, 6}, {api.MaxNodes, api.MaxNodes - 1, 2 * api.MaxNodes},
		{3, 3, 0}, {3, 4, 0}, {3, -1, 0}, {3, -3, 0}, {0, 0, 0}, {0, 1, 0}, {0, -1, 0},
		{api.MaxNodes, api.MaxNodes, 0}, {3, math.MaxInt, 0}, {3, math.MinInt, 0}, {3, 1 << 62, 0},
	} {
		g := graph.New(x.inputs)
		got := g.Input(x.i)
		var err error
		if x.want == 0 {
			err = api.ErrRange
		}
		if got != x.want {
			t.Errorf("of %d inputs Input(%d) = %d, want %d", x.inputs, x.i, got, x.want)
		}
		check(t, "Input", g, x.inputs, nil, err)
	}
	g := made(t, 2, [2]int{4, 2})
	if g.Input(2) != 0 || g.Err() != api.ErrRange {
		t.Error("a gate is an input", g.Err())
	}
}

// TestAnd is one graph, call by call.
func TestAnd(t *testing.T) {
	g := graph.New(2)
	for i, x := range []struct{ a, b, want, gates int }{
		// what needs no gate
		{0, 0, 0, 0}, {0, 1, 0, 0}, {1, 0, 0, 0}, {1, 1, 1, 0},
		{0, 2, 0, 0}, {2, 0, 0, 0}, {0, 5, 0, 0}, {5, 0, 0, 0},
		{1, 2, 2, 0}, {2, 1, 2, 0}, {1, 5, 5, 0}, {5, 1, 5, 0},
		{2, 2, 2, 0}, {3, 3, 3, 0}, {5, 5, 5, 0},
		{2, 3, 0, 0}, {3, 2, 0, 0}, {4, 5, 0, 0}, {5, 4, 0, 0},
		// new ones, and the same again
		{2, 4, 6, 1}, {2, 4, 6, 1}, {4, 2, 6, 1},
		{5, 2, 8, 2}, {2, 5, 8, 2}, {4, 2, 6, 2},
		{4, 3, 10, 3}, {3, 5, 12, 4}, {5, 3, 12, 4}, {3, 4, 10, 4},
		// gates of gates
		{6, 6, 6, 4}, {6, 7, 0, 4}, {7, 6, 0, 4}, {7, 1, 7, 4}, {1, 7, 7, 4}, {0, 7, 0, 4},
		{7, 13, 14, 5}, {13, 7, 14, 5}, {12, 7, 16, 6}, {16, 2, 18, 7}, {2, 17, 20, 8}, {19, 21, 22, 9}, {21, 19, 22, 9},
		// what is not told by the two literals alone is another gate
		{6, 2, 24, 10}, {7, 2, 26, 11},
	} {
		if got := g.And(x.a, x.b); got != x.want || g.Len() != 2+x.gates || g.Err() != nil {
			t.Errorf("%d: And(%d, %d) = %d of %d nodes, %v, want %d", i, x.a, x.b, got, g.Len(), g.Err(), x.want)
		}
	}
	want := [][2]int{{4, 2}, {5, 2}, {4, 3}, {5, 3}, {13, 7}, {12, 7}, {16, 2}, {17, 2}, {21, 19}, {6, 2}, {7, 2}}
	check(t, "And", g, 2, want, nil)
}

func TestAndOfNothing(t *testing.T) {
	g := graph.New(0)
	for a := range 2 {
		for b := range 2 {
			if got := g.And(a, b); got != a*b {
				t.Errorf("And(%d, %d) = %d", a, b, got)
			}
		}
	}
	check(t, "of no inputs", g, 0, nil, nil)
	if g.And(2, 1) != 0 || g.Err() != api.ErrRange {
		t.Error("And(2, 1) of no inputs:", g.Err())
	}
}

// TestAndRange: a literal that is none is told ahead of all else, and nothing
// else has changed.
func TestAndRange(t *testing.T) {
	ands := [][2]int{{4, 2}, {7, 3}}
	none := []int{-1, -2, -3, -8, 10, 11, 12, 100, 2 * api.MaxNodes, 2*api.MaxNodes + 2, 1 << 62, math.MaxInt, math.MaxInt - 1, math.MinInt, math.MinInt + 1}
	for _, l := range none {
		for _, other := range append([]int{0, 1, 2, 5, 8, 9, l ^ 1}, none...) {
			for _, pair := range [][2]int{{l, other}, {other, l}} {
				g := made(t, 2, ands...)
				if got := g.And(pair[0], pair[1]); got != 0 {
					t.Errorf("And%v = %d", pair, got)
				}
				check(t, "And", g, 2, ands, api.ErrRange)
			}
		}
	}
	g := made(t, 2, ands...)
	if g.And(9, 8) != 0 || g.And(9, 9) != 9 || g.Err() != nil {
		t.Error("the last literal is none", g.Err())
	}
	if g.And(9, 2) != 10 || g.And(10, 11) != 0 || g.And(11, 1) != 11 || g.Err() != nil {
		t.Error("one that is there by now is none", g.Err())
	}
}

// TestErr: the first error stays, and the graph goes on.
func TestErr(t *testing.T) {
	g := graph.New(2)
	if g.Input(2) != 0 || g.Err() != api.ErrRange {
		t.Error(g.Err())
	}
	if g.Input(1) != 4 || g.And(2, 4) != 6 || g.And(4, 2) != 6 || g.And(8, 2) != 0 || g.And(7, 2) != 8 || g.And(8, 2) != 10 {
		t.Error("it does not go on")
	}
	check(t, "after an error", g, 2, [][2]int{{4, 2}, {7, 2}, {8, 2}}, api.ErrRange)

	g = graph.New(api.MaxNodes)
	if g.And(2, 4) != 0 || g.Err() != api.ErrLimit {
		t.Error(g.Err())
	}
	if g.And(-1, 4) != 0 || g.Input(-1) != 0 || g.Err() != api.ErrLimit {
		t.Error("not the first one", g.Err())
	}
	g = graph.New(api.MaxNodes)
	if g.And(2, -4) != 0 || g.And(2, 4) != 0 || g.Err() != api.ErrRange {
		t.Error("not the first one", g.Err())
	}
	if h := graph.New(2); h.Err() != nil {
		t.Error("another graph's error", h.Err())
	}
}

// TestLimit: there are never more than MaxNodes inputs and gates.
func TestLimit(t *testing.T) {
	for _, inputs := range []int{2, 3, 1000, api.MaxNodes - 1, api.MaxNodes} {
		g := graph.New(inputs)
		last, ands := 2, [][2]int(nil)
		for g.Len() < api.MaxNodes {
			old := last
			if last = g.And(last^1, 4); last != 2*g.Len() || g.Err() != nil {
				t.Fatal(inputs, last, g.Err())
			}
			ands = append(ands, [2]int{max(old^1, 4), min(old^1, 4)})
		}
		check(t, "full", g, inputs, ands, nil)
		full := 2 * api.MaxNodes
		for _, x := range [][3]int{{full, 0, 0}, {1, full + 1, full + 1}, {full, full, full}, {full, full + 1, 0}} {
			if got := g.And(x[0], x[1]); got != x[2] {
				t.Errorf("And(%d, %d) = %d, of those that need no gate", x[0], x[1], got)
			}
		}
		for i, and := range ands {
			if got := g.And(and[1], and[0]); got != 2*(inputs+i+1) {
				t.Errorf("And%v = %d, of one that is there", and, got)
			}
		}
		check(t, "still", g, inputs, ands, nil)
		for range 2 {
			if got := g.And(full, 2); got != 0 {
				t.Error("one more:", got)
			}
			check(t, "one more", g, inputs, ands, api.ErrLimit)
		}
		if got := g.And(full+1, 1); got != full+1 {
			t.Error("after the error:", got)
		}
		h := graph.New(inputs)
		for _, and := range ands {
			h.And(and[0], and[1])
		}
		if h.And(full+2, 2) != 0 || h.Err() != api.ErrRange {
			t.Error("of one too many:", h.Err())
		}
	}
}

func TestNot(t *testing.T) {
	for _, x := range [][2]int{{0, 1}, {1, 0}, {2, 3}, {3, 2}, {4, 5}, {2 * api.MaxNodes, 2*api.MaxNodes + 1}, {math.MaxInt, math.MaxInt - 1}} {
		if graph.Not(x[0]) != x[1] || graph.Not(x[1]) != x[0] {
			t.Errorf("Not(%d) = %d, Not(%d) = %d", x[0], graph.Not(x[0]), x[1], graph.Not(x[1]))
		}
	}
	for _, l := range []int{-1, -2, -7, math.MinInt, math.MinInt + 1} { // of what is no literal the opposite is none
		if n := graph.Not(l); n >= 0 || graph.Not(n) != l {
			t.Errorf("Not(%d) = %d", l, n)
		}
	}
}

// chain is so many gates behind so many inputs, each of the one ahead of it.
func chain(inputs, gates int) [][2]int {
	var out [][2]int
	for i := range gates {
		l := 2 * (inputs + i)
		out = append(out, [2]int{l + 1, l})
	}
	return out
}

// named is a circuit, and what there is to it.
type named struct {
	name string
	c    api.Circuit
}

// right is circuits that are right.
func right() []named {
	const most = api.MaxNodes
	two := [][2]int{{4, 2}, {6, 6}}
	return []named{
		{"the zero value", api.Circuit{}},
		{"empty lists", api.Circuit{Ands: [][2]int{}, Outs: []int{}}},
		{"no nodes but false", circuit(0, nil, 0, 1, 1)},
		{"gates of constants", circuit(0, [][2]int{{0, 0}, {1, 0}, {1, 1}, {5, 4}, {8, 1}}, 11)},
		{"all its literals", circuit(2, two, 0, 1, 2, 3, 4, 5, 6, 7, 8, 9)},
		{"gates that Graph does not make", circuit(1, [][2]int{{2, 2}, {3, 2}, {2, 2}, {2, 0}, {2, 1}}, 5)},
		{"the last literal ahead", circuit(2, [][2]int{{5, 5}, {7, 7}})},
		{"many Outs", circuit(0, nil, make([]int, 5*most)...)},
		{"all inputs", circuit(most, nil, 2*most+1)},
		{"all gates", circuit(0, chain(0, most), 2*most+1)},
		{"both, all together", circuit(3000, chain(3000, most-3000), 2*most+1)},
	}
}

// many is circuits of more nodes than may be, or fewer than none.
func many() []named {
	const most = api.MaxNodes
	two := [][2]int{{4, 2}, {6, 6}}
	return []named{
		{"inputs below 0", circuit(-1, nil)},
		{"inputs far below 0", circuit(math.MinInt, nil)},
		{"below 0 by as many as gates", circuit(-2, two)},
		{"one input more", circuit(most+1, nil)},
		{"far more", circuit(math.MaxInt, nil)},
		{"far more, with gates", circuit(math.MaxInt, two)},
		{"one gate more", circuit(0, chain(0, most+1))},
		{"far more gates", circuit(0, make([][2]int, 3*most))},
		{"one more together", circuit(3000, chain(3000, most-2999))},
		{"more, and not right", circuit(most, [][2]int{{2, 4}}, -1)},
		{"below 0, and not right", circuit(-1, [][2]int{{-1, -2}}, -1)},
		{"more, and a wrong one of Outs", circuit(most+1, nil, -1)},
	}
}

// wrong is circuits that are not right, though not for how many nodes they have.
func wrong() []named {
	const most = api.MaxNodes
	two := [][2]int{{4, 2}, {6, 6}}
	return []named{
		{"itself", circuit(2, [][2]int{{6, 2}})},
		{"its opposite", circuit(2, [][2]int{{7, 2}})},
		{"itself, twice", circuit(2, [][2]int{{6, 6}})},
		{"itself, of nothing", circuit(0, [][2]int{{2, 0}})},
		{"a later one", circuit(2, [][2]int{{8, 2}, {4, 2}})},
		{"the second gate itself", circuit(2, [][2]int{{4, 2}, {8, 2}})},
		{"far behind", circuit(2, [][2]int{{math.MaxInt, 2}})},
		{"the first below the second", circuit(2, [][2]int{{2, 4}})},
		{"just below the second", circuit(2, [][2]int{{4, 2}, {4, 5}})},
		{"the second behind", circuit(2, [][2]int{{4, 6}})},
		{"the second below 0", circuit(2, [][2]int{{4, -1}})},
		{"the second far below 0", circuit(2, [][2]int{{4, math.MinInt}})},
		{"both below 0", circuit(2, [][2]int{{-1, -2}})},
		{"both the same below 0", circuit(2, [][2]int{{-2, -2}})},
		{"one of Outs behind", circuit(2, two, 2, 10)},
		{"one of Outs behind, of nothing", circuit(0, nil, 2)},
		{"one of Outs behind all", circuit(most, nil, 2*most+2)},
		{"one of Outs far behind", circuit(2, two, math.MaxInt, 2)},
		{"one of Outs below 0", circuit(2, two, 2, -1, 2)},
		{"one of Outs far below 0", circuit(2, two, math.MinInt)},
	}
}

func TestCheck(t *testing.T) {
	checkAll(t, right(), nil)
	checkAll(t, many(), api.ErrLimit)
	checkAll(t, wrong(), api.ErrRange)
}

// checkAll looks whether Check and Build tell want of each of these.
func checkAll(t *testing.T, list []named, want error) {
	t.Helper()
	for _, x := range list {
		if err := graph.Check(x.c); err != want {
			t.Errorf("%s: Check: %v, want %v", x.name, err, want)
		}
		g, outs, err := graph.Build(x.c)
		switch {
		case err != want:
			t.Errorf("%s: Build: %v, want %v", x.name, err, want)
		case err != nil && (g != nil || len(outs) != 0):
			t.Errorf("%s: Build: beside an error: %v, %v", x.name, g, outs)
		case err == nil && (g.Inputs() != x.c.Inputs || g.Err() != nil || len(outs) != len(x.c.Outs)):
			t.Errorf("%s: Build: %v, %v, %v", x.name, g.Inputs(), g.Err(), outs)
		}
	}
}

func TestCircuit(t *testing.T) {
	g := made(t, 2, [2]int{4, 2}, [2]int{7, 3})
	ands := [][2]int{{4, 2}, {7, 3}}
	for _, outs := range [][]int{nil, {}, {0}, {1}, {9}, {8, 2, 8, 3, 0}, {2, 4, 6, 8}} {
		if c := g.Circuit(outs...); !same(c, circuit(2, ands, outs...)) || graph.Check(c) != nil {
			t.Errorf("Circuit(%v): %v", outs, c)
		}
	}
	// Outs are as they are handed in: Check tells what they are
	if c := g.Circuit(10, -1); !same(c, circuit(2, ands, 10, -1)) || graph.Check(c) != api.ErrRange || g.Err() != nil {
		t.Error("of no literals:", c, g.Err())
	}
	if c := graph.New(0).Circuit(); !same(c, api.Circuit{}) {
		t.Error("of nothing:", c)
	}
	if c := graph.New(5).Circuit(11); !same(c, circuit(5, nil, 11)) {
		t.Error("of inputs alone:", c)
	}
}

func TestBuild(t *testing.T) {
	for _, x := range []struct {
		c    api.Circuit
		ands [][2]int
		outs []int
	}{
		{api.Circuit{}, nil, nil},
		{circuit(3, nil, 0, 1, 2, 7, 2), nil, []int{0, 1, 2, 7, 2}},
		{circuit(2, [][2]int{{4, 2}}, 6, 7), [][2]int{{4, 2}}, []int{6, 7}},
		// gates that aren't needed are there no more, and what follows moves up
		{circuit(2, [][2]int{{4, 0}, {5, 3}, {8, 6}}, 6, 7, 8, 9, 10, 11), [][2]int{{5, 3}}, []int{0, 1, 6, 7, 0, 1}},
		{circuit(2, [][2]int{{4, 1}, {6, 2}, {7, 5}}, 6, 7, 8, 10, 11), [][2]int{{4, 2}}, []int{4, 5, 6, 5, 4}},
		{circuit(2, [][2]int{{5, 5}, {5, 4}, {6, 2}}, 6, 7, 8, 9, 10), [][2]int{{5, 2}}, []int{5, 4, 0, 1, 6}},
		{circuit(2, [][2]int{{4, 2}, {4, 2}, {8, 6}, {9, 6}, {9, 2}}, 8, 9, 10, 11, 12, 13, 14), [][2]int{{4, 2}, {7, 2}}, []int{6, 7, 6, 7, 0, 1, 8}},
		{circuit(1, [][2]int{{1, 1}, {4, 2}, {5, 3}, {7, 4}}, 4, 5, 6, 7, 8, 10, 11), nil, []int{1, 0, 2, 3, 0, 3, 2}},
		// the greater one first, whichever it was
		{circuit(3, [][2]int{{6, 1}, {4, 1}, {10, 8}, {8, 2}, {10, 2}}, 12, 14, 16), [][2]int{{6, 4}, {6, 2}, {4, 2}}, []int{8, 10, 12}},
	} {
		g, outs, err := graph.Build(x.c)
		if err != nil || !slices.Equal(outs, x.outs) {
			t.Fatalf("Build(%v) = %v, %v, want %v", x.c, outs, err, x.outs)
		}
		check(t, "Build", g, x.c.Inputs, x.ands, nil)
	}
}

// TestBack: Build of a Circuit that a Graph made is that, with the same Outs,
// and goes on as that does.
func TestBack(t *testing.T) {
	g := graph.New(5)
	ls := []int{2, 5, 6, 9, 10}
	for i := 0; g.Len() < api.MaxNodes; i++ { // some of these make no gate
		ls = append(ls, g.And(ls[i*i%len(ls)]^i&1, ls[(7*i+3)%len(ls)]^i>>1&1))
		if i > 100*api.MaxNodes {
			t.Fatal("too few gates:", g.Len())
		}
	}
	c := g.Circuit(ls...)
	h, outs, err := graph.Build(c)
	if err != nil || h.Err() != nil || !slices.Equal(outs, ls) || !same(h.Circuit(outs...), c) {
		t.Error(err, h.Err())
	}
	g = made(t, 3, [2]int{4, 2}, [2]int{9, 6})
	h, _, _ = graph.Build(g.Circuit(10))
	for i, x := range []struct{ a, b, want int }{{2, 4, 8}, {6, 9, 10}, {10, 9, 12}, {9, 10, 12}, {12, 13, 0}, {14, 2, 0}} {
		if got, other := g.And(x.a, x.b), h.And(x.a, x.b); got != x.want || other != x.want {
			t.Errorf("%d: And(%d, %d) = %d, and as it was built %d, want %d", i, x.a, x.b, got, other, x.want)
		}
	}
	if g.Err() != api.ErrRange || h.Err() != api.ErrRange || !same(g.Circuit(), h.Circuit()) {
		t.Error(g.Err(), h.Err())
	}
}

// plain is a Graph as the chapter's words say it, gate by gate.
type plain struct {
	inputs int
	ands   [][2]int
	err    error
}

// and is what And tells.
func (p *plain) and(a, b int) int {
	last := 2*(p.inputs+len(p.ands)) + 1
	if a < 0 || b < 0 || a > last || b > last {
		if p.err == nil {
			p.err = api.ErrRange
		}
		return 0
	}
	switch {
	case a == 0 || b == 0:
		return 0
	case a == 1:
		return b
	case b == 1 || a == b:
		return a
	case a/2 == b/2:
		return 0
	}
	for i, and := range p.ands {
		if and == [2]int{a, b} || and == [2]int{b, a} {
			return 2 * (p.inputs + i + 1)
		}
	}
	p.ands = append(p.ands, [2]int{max(a, b), min(a, b)})
	return last + 1
}

// TestAllCalls goes through all ways to call And three times on one input, and
// twice on two, of what is no literal too, and holds them against the words.
func TestAllCalls(t *testing.T) {
	var grow func(inputs, left int, calls [][2]int)
	ways := 0
	grow = func(inputs, left int, calls [][2]int) {
		if left == 0 {
			ways++
			checkCalls(t, inputs, calls)
			return
		}
		most := 2*(inputs+len(calls)) + 2
		for a := -1; a <= most; a++ {
			for b := -1; b <= most; b++ {
				grow(inputs, left-1, append(slices.Clone(calls), [2]int{a, b}))
			}
		}
	}
	grow(1, 3, nil)
	grow(2, 2, nil)
	if ways != 6*6*8*8*10*10+8*8*10*10 {
		t.Error(ways)
	}
}

// checkCalls holds these calls on a new Graph against the words.
func checkCalls(t *testing.T, inputs int, calls [][2]int) {
	t.Helper()
	g, p := graph.New(inputs), &plain{inputs: inputs}
	for _, x := range calls {
		if got, want := g.And(x[0], x[1]), p.and(x[0], x[1]); got != want || g.Len() != inputs+len(p.ands) || g.Err() != p.err {
			t.Fatalf("%v: And%v = %d of %d, %v, want %d, %v", calls, x, got, g.Len(), g.Err(), want, p.err)
		}
	}
	if c := g.Circuit(); !same(c, circuit(inputs, p.ands)) {
		t.Fatalf("%v: %v, want %v", calls, c, p.ands)
	}
}

// worth is what each literal of c is worth, where n's bits are the inputs.
func worth(c api.Circuit, n int) []bool {
	out := []bool{false, true}
	for i := range c.Inputs {
		is := n>>i&1 == 1
		out = append(out, is, !is)
	}
	for _, and := range c.Ands {
		is := out[and[0]] && out[and[1]]
		out = append(out, is, !is)
	}
	return out
}

// everyCircuit calls f with all right circuits of so many inputs and gates,
// each literal one of Outs.
func everyCircuit(inputs, gates int, f func(api.Circuit)) {
	var outs []int
	for l := range 2 * (inputs + gates + 1) {
		outs = append(outs, l)
	}
	var grow func(ands [][2]int)
	grow = func(ands [][2]int) {
		if len(ands) == gates {
			f(circuit(inputs, ands, outs...))
			return
		}
		for a := range 2 * (inputs + len(ands) + 1) {
			for b := range a + 1 {
				grow(append(slices.Clone(ands), [2]int{a, b}))
			}
		}
	}
	grow(nil)
}

// TestBuildOfAll: what is built is worth what the circuit is, has no gate that
// isn't needed, and is itself when it is built again.
func TestBuildOfAll(t *testing.T) {
	for _, x := range [][2]int{{0, 3}, {1, 3}, {2, 2}, {3, 2}} {
		everyCircuit(x[0], x[1], func(c api.Circuit) {
			g, outs, err := graph.Build(c)
			if err != nil || graph.Check(c) != nil || g.Err() != nil || len(outs) != len(c.Outs) {
				t.Fatal(c, outs, err)
			}
			d := g.Circuit(outs...)
			if d.Inputs != c.Inputs || graph.Check(d) != nil {
				t.Fatal(c, d)
			}
			for n := range 1 << c.Inputs {
				was, is := worth(c, n), worth(d, n)
				for i, l := range c.Outs {
					if was[l] != is[d.Outs[i]] {
						t.Fatal(c, d, n, l)
					}
				}
			}
			for i, and := range d.Ands {
				if and[1] < 2 || and[0]/2 == and[1]/2 || slices.Contains(d.Ands[:i], and) {
					t.Fatal(c, d)
				}
			}
			h, again, err := graph.Build(d)
			if err != nil || !same(h.Circuit(again...), d) {
				t.Fatal(c, d, err)
			}
		})
	}
}

// TestFaultsOfAll holds Check of all small circuits, right or not, against the
// words.
func TestFaultsOfAll(t *testing.T) {
	told := map[error]int{}
	for inputs := range 3 {
		for a := -2; a <= 9; a++ {
			for b := -2; b <= 9; b++ {
				for out := -2; out <= 9; out++ {
					var want error
					if a < 0 || b < 0 || out < 0 || a/2 > inputs || b > a || out/2 > inputs+1 {
						want = api.ErrRange
					}
					c := circuit(inputs, [][2]int{{a, b}}, 0, out)
					if err := graph.Check(c); err != want {
						t.Errorf("Check(%v) = %v", c, err)
					}
					told[want]++
				}
			}
		}
	}
	if told[nil] < 100 || told[api.ErrRange] < 100 {
		t.Error(told)
	}
}

// fill writes x all over list, its spare room too.
func fill[T any](list []T, x T) {
	list = list[:cap(list)]
	for i := range list {
		list[i] = x
	}
}

// TestMemory: what is handed in is neither changed nor kept.
func TestMemory(t *testing.T) {
	handed := func() api.Circuit { return circuit(2, [][2]int{{4, 2}, {7, 1}, {8, 3}}, 10, 9, 2) }
	c := handed()
	err := graph.Check(c)
	g, outs, other := graph.Build(c)
	if err != nil || other != nil || !same(c, handed()) {
		t.Fatal(c, err, other)
	}
	fill(c.Ands, [2]int{9, 9})
	fill(c.Outs, 9)
	ands := [][2]int{{4, 2}, {7, 3}}
	if !slices.Equal(outs, []int{8, 6, 2}) {
		t.Error("what was handed in is kept", outs)
	}
	check(t, "handed in", g, 2, ands, nil)

	list := []int{8, 6, 2}
	d := g.Circuit(list...)
	fill(list, 9)
	if !same(d, circuit(2, ands, 8, 6, 2)) {
		t.Error("Circuit keeps what it was handed", d)
	}
	fill(outs, 9)
	check(t, "Outs that were handed out", g, 2, ands, nil)
}

// TestLists: no two lists that are handed out share memory, spare room too, and
// the Graph shows nothing of what is written there.
func TestLists(t *testing.T) {
	ands := [][2]int{{4, 2}, {7, 3}}
	g := made(t, 2, ands...)
	c, d := g.Circuit(8, 9), g.Circuit(8, 9)
	fill(c.Ands, [2]int{9, 9})
	fill(c.Outs, 99)
	if !same(d, circuit(2, ands, 8, 9)) {
		t.Error("two circuits share memory", d)
	}
	check(t, "a circuit that was handed out", g, 2, ands, nil)
	if g.And(2, 4) != 6 || g.And(9, 2) != 10 {
		t.Error("the graph shows what was written")
	}
	if !same(d, circuit(2, ands, 8, 9)) {
		t.Error("a circuit shows a later gate", d)
	}
	_ = append(d.Ands, [2]int{9, 9})
	_ = append(g.Circuit().Ands, [2]int{9, 9})
	check(t, "after an append", g, 2, append(ands, [2]int{9, 2}), nil)

	e := d
	_, first, _ := graph.Build(e)
	h, second, _ := graph.Build(e)
	fill(first, 99)
	if !slices.Equal(second, []int{8, 9}) || !same(h.Circuit(second...), e) {
		t.Error("two that were built share memory", second)
	}
}

// TestBehind: what lies behind the length of what is handed in is neither read
// nor written.
func TestBehind(t *testing.T) {
	ands, outs := [][2]int{{4, 2}, {-1, 99}, {-1, 99}}, []int{7, -1, 99}
	c := circuit(2, ands[:1], outs[:1]...)
	if err := graph.Check(c); err != nil {
		t.Error(err)
	}
	g, got, err := graph.Build(c)
	if err != nil || !slices.Equal(got, []int{7}) {
		t.Error(got, err)
	}
	d := g.Circuit(outs[:1]...)
	fill(d.Outs, 5)
	if !slices.Equal(ands, [][2]int{{4, 2}, {-1, 99}, {-1, 99}}) || !slices.Equal(outs, []int{7, -1, 99}) {
		t.Error("written behind the length", ands, outs)
	}
}
