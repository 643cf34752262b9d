package look_test

import (
	"math"
	"slices"
	"testing"

	"skolem/api"
	"skolem/graph"
	"skolem/look"
)

// circuit is one of so many inputs, these gates and these Outs.
func circuit(inputs int, ands [][2]int, outs ...int) api.Circuit {
	return api.Circuit{Inputs: inputs, Ands: ands, Outs: outs}
}

// some is three inputs and gates of them: nodes 4 to 9.
func some(outs ...int) api.Circuit {
	return circuit(3, [][2]int{{4, 2}, {7, 5}, {9, 3}, {11, 8}, {12, 12}, {1, 0}}, outs...)
}

// values is so many bools, n's bits.
func values(many, n int) []bool {
	var out []bool
	for i := range many {
		out = append(out, n>>i&1 == 1)
	}
	return out
}

func TestNodes(t *testing.T) {
	const o, x = false, true
	for _, q := range []struct {
		c        api.Circuit
		in, want []bool
	}{
		{api.Circuit{}, nil, []bool{o}},
		{circuit(2, nil), []bool{x, o}, []bool{o, x, o}},
		{circuit(0, [][2]int{{0, 0}, {1, 0}, {1, 1}, {7, 6}, {7, 5}, {10, 1}}), nil, []bool{o, o, o, x, o, o, o}},
		{circuit(2, [][2]int{{4, 2}, {5, 3}, {9, 7}}), []bool{x, o}, []bool{o, x, o, o, o, x}},
		{circuit(2, [][2]int{{4, 2}, {5, 3}, {9, 7}}), []bool{x, x}, []bool{o, x, x, x, o, o}},
		{circuit(2, [][2]int{{4, 2}, {5, 3}, {9, 7}}), []bool{o, o}, []bool{o, o, o, o, x, o}},
		{circuit(1, [][2]int{{3, 3}, {3, 2}, {2, 2}}), []bool{x}, []bool{o, x, o, o, x}},
		{some(), []bool{x, x, o}, []bool{o, x, x, o, x, o, o, x, o, o}},
		{some(), []bool{o, o, o}, []bool{o, o, o, o, o, x, x, o, x, o}},
		{some(), []bool{o, x, x}, []bool{o, o, x, x, o, o, x, o, x, o}},
		// those that are not there are false, and one too many says nothing
		{circuit(2, [][2]int{{5, 2}}), []bool{x}, []bool{o, x, o, x}},
		{circuit(2, [][2]int{{5, 3}}), nil, []bool{o, o, o, x}},
		{circuit(2, [][2]int{{5, 3}}), []bool{}, []bool{o, o, o, x}},
		{circuit(2, [][2]int{{5, 3}}), []bool{o, o, x, x}, []bool{o, o, o, x}},
		{circuit(1, [][2]int{{2, 2}}), []bool{o, x}, []bool{o, o, o}},
		{api.Circuit{}, []bool{x, x}, []bool{o}},
	} {
		if got := look.Nodes(q.c, q.in); !slices.Equal(got, q.want) {
			t.Errorf("Nodes(%v, %v) = %v, want %v", q.c, q.in, got, q.want)
		}
	}
}

func TestEval(t *testing.T) {
	const o, x = false, true
	for _, q := range []struct {
		c        api.Circuit
		in, want []bool
	}{
		{api.Circuit{}, nil, nil},
		{circuit(2, [][2]int{{4, 2}}), []bool{x, x}, nil},
		{circuit(0, nil, 0, 1, 1, 0), nil, []bool{o, x, x, o}},
		{circuit(2, nil, 5, 4, 3, 2, 2), []bool{x, o}, []bool{x, o, o, x, x}},
		{circuit(2, [][2]int{{4, 2}}, 6, 7), []bool{x, x}, []bool{x, o}},
		{circuit(2, [][2]int{{4, 2}}, 6, 7), []bool{x, o}, []bool{o, x}},
		{some(13, 12, 8, 9, 14), []bool{x, x, o}, []bool{x, o, x, o, x}},
		{circuit(2, nil, 2, 4), []bool{x}, []bool{x, o}},
		{circuit(2, nil, 2, 5), nil, []bool{o, x}},
		{circuit(1, nil, 2, 3), []bool{x, x, x}, []bool{x, o}},
	} {
		if got := look.Eval(q.c, q.in...); !slices.Equal(got, q.want) {
			t.Errorf("Eval(%v, %v) = %v, want %v", q.c, q.in, got, q.want)
		}
	}
	if got := look.Eval(circuit(2, [][2]int{{5, 2}}, 6), true, false); !slices.Equal(got, []bool{true}) {
		t.Error("values one by one:", got)
	}
}

// TestHangs is Cone and Support: what a literal hangs on by its gates, whatever
// it is worth.
func TestHangs(t *testing.T) {
	for _, q := range []struct {
		c             api.Circuit
		l             int
		cone, support []int
	}{
		{api.Circuit{}, 0, nil, nil}, {api.Circuit{}, 1, nil, nil},
		{some(), 0, nil, nil}, {some(), 1, nil, nil},
		{some(), 2, nil, []int{0}}, {some(), 3, nil, []int{0}}, {some(), 6, nil, []int{2}}, {some(), 7, nil, []int{2}},
		{some(), 8, []int{4}, []int{0, 1}}, {some(), 9, []int{4}, []int{0, 1}},
		{some(), 10, []int{5}, []int{1, 2}},
		{some(), 12, []int{4, 6}, []int{0, 1}},
		{some(), 14, []int{4, 5, 7}, []int{0, 1, 2}}, {some(), 15, []int{4, 5, 7}, []int{0, 1, 2}},
		{some(), 16, []int{4, 6, 8}, []int{0, 1}},
		{some(), 18, []int{9}, nil}, {some(), 19, []int{9}, nil},
		// also where the values say that it doesn't
		{circuit(3, [][2]int{{7, 6}, {8, 4}}), 8, []int{4}, []int{2}},
		{circuit(3, [][2]int{{7, 6}, {8, 4}}), 11, []int{4, 5}, []int{1, 2}},
		{circuit(2, [][2]int{{4, 0}}), 6, []int{3}, []int{1}},
		// Outs say nothing
		{some(18, 2), 13, []int{4, 6}, []int{0, 1}},
		{some(12), 10, []int{5}, []int{1, 2}},
		// of no inputs
		{circuit(0, [][2]int{{1, 0}, {3, 2}, {1, 1}}), 4, []int{1, 2}, nil},
		{circuit(0, [][2]int{{1, 0}, {3, 2}, {1, 1}}), 7, []int{3}, nil},
	} {
		if got := look.Cone(q.c, q.l); !slices.Equal(got, q.cone) {
			t.Errorf("Cone(%v, %d) = %v, want %v", q.c, q.l, got, q.cone)
		}
		if got := look.Support(q.c, q.l); !slices.Equal(got, q.support) {
			t.Errorf("Support(%v, %d) = %v, want %v", q.c, q.l, got, q.support)
		}
	}
}

func TestDepth(t *testing.T) {
	for _, q := range []struct {
		c    api.Circuit
		want int
	}{
		{api.Circuit{}, 0}, {circuit(0, nil, 0, 1), 0}, {circuit(3, nil, 0, 3, 6), 0},
		{circuit(2, [][2]int{{4, 2}}, 6), 1}, {circuit(2, [][2]int{{4, 2}}, 7), 1}, {circuit(2, [][2]int{{0, 0}}, 6), 1},
		// gates that are on the way to none of Outs don't count
		{some(), 0}, {some(2, 1), 0}, {some(8), 1}, {some(11), 1}, {some(12), 2}, {some(14), 2}, {some(17), 3}, {some(19), 1},
		{some(8, 17, 2), 3}, {some(10, 0, 18), 1}, {some(8, 9, 13, 12), 2},
		// the longest one, on which side it is
		{circuit(2, [][2]int{{4, 2}, {6, 3}, {8, 2}, {8, 4}, {12, 6}, {14, 10}}, 14), 4},
		{circuit(2, [][2]int{{4, 2}, {6, 3}, {8, 2}, {8, 4}, {12, 6}, {14, 10}}, 12), 3},
		{circuit(2, [][2]int{{4, 2}, {6, 3}, {8, 2}, {8, 4}, {12, 6}, {14, 10}}, 16), 5},
		{circuit(2, [][2]int{{4, 2}, {6, 6}, {5, 3}, {10, 8}}, 12), 3},
	} {
		if got := look.Depth(q.c); got != q.want {
			t.Errorf("Depth(%v) = %d, want %d", q.c, got, q.want)
		}
	}
}

// check looks whether g has these gates and this error, and got is want.
func check(t *testing.T, name string, g *graph.Graph, got, want int, ands [][2]int, err error) {
	t.Helper()
	if got != want || g.Err() != err || !slices.Equal(g.Circuit().Ands, ands) {
		t.Errorf("%s: %d of %v, %v, want %d of %v, %v", name, got, g.Circuit().Ands, g.Err(), want, ands, err)
	}
}

func TestCopy(t *testing.T) {
	c := some(18)
	for i, q := range []struct {
		c    api.Circuit
		l    int
		by   []int
		want int
		ands [][2]int
	}{
		// what has no gates
		{c, 0, []int{4, 6, 2}, 0, nil}, {c, 1, []int{4, 6, 2}, 1, nil},
		{c, 2, []int{4, 6, 2}, 4, nil}, {c, 3, []int{4, 6, 2}, 5, nil}, {c, 3, []int{7, 6, 2}, 6, nil},
		{c, 6, []int{4, 6, 2}, 2, nil}, {c, 6, []int{4, 6, 1}, 1, nil}, {c, 7, []int{4, 6, 1}, 0, nil},
		// its Cone alone, rising, by And
		{c, 8, []int{2, 4, 6}, 8, [][2]int{{4, 2}}}, {c, 9, []int{2, 4, 6}, 9, [][2]int{{4, 2}}},
		{c, 8, []int{6, 5, 2}, 8, [][2]int{{6, 5}}}, {c, 9, []int{3, 5, 2}, 9, [][2]int{{5, 3}}},
		{c, 10, []int{2, 4, 6}, 8, [][2]int{{7, 5}}},
		{c, 14, []int{2, 4, 6}, 12, [][2]int{{4, 2}, {7, 5}, {11, 8}}},
		{c, 15, []int{2, 4, 6}, 13, [][2]int{{4, 2}, {7, 5}, {11, 8}}},
		{c, 14, []int{5, 6, 2}, 12, [][2]int{{6, 5}, {7, 3}, {11, 8}}},
		// And makes no gate where none is needed
		{c, 16, []int{2, 4, 6}, 10, [][2]int{{4, 2}, {9, 3}}},
		{c, 17, []int{2, 4, 6}, 11, [][2]int{{4, 2}, {9, 3}}},
		{c, 18, []int{2, 4, 6}, 0, nil}, {c, 19, []int{2, 4, 6}, 1, nil},
		{c, 12, []int{2, 2, 6}, 3, nil}, {c, 12, []int{2, 3, 6}, 3, nil}, {c, 12, []int{1, 4, 6}, 0, nil},
		{c, 14, []int{2, 4, 5}, 8, [][2]int{{4, 2}}},
		{c, 14, []int{2, 1, 6}, 2, nil}, {c, 14, []int{1, 5, 0}, 5, nil},
		{circuit(2, [][2]int{{4, 2}, {4, 2}, {9, 6}}), 10, []int{2, 4}, 0, [][2]int{{4, 2}}},
		{circuit(2, [][2]int{{4, 2}, {4, 2}, {9, 7}}), 10, []int{2, 4}, 9, [][2]int{{4, 2}}},
		// 0 where there is none; one too many says nothing
		{c, 8, nil, 0, nil}, {c, 8, []int{2}, 0, nil}, {c, 9, []int{2}, 1, nil}, {c, 4, []int{2}, 0, nil}, {c, 5, []int{2}, 1, nil},
		{c, 10, []int{2, 4}, 5, nil}, {c, 10, []int{}, 1, nil}, {c, 14, []int{2, 4}, 10, [][2]int{{4, 2}, {8, 4}}},
		{c, 8, []int{2, 4, 6, 99, -1}, 8, [][2]int{{4, 2}}}, {circuit(1, [][2]int{{3, 3}}), 4, []int{2, 4, 6}, 3, nil},
		// one that it doesn't hang on is asked for nothing
		{c, 8, []int{2, 4, 99}, 8, [][2]int{{4, 2}}}, {c, 10, []int{-7, 2, 4}, 8, [][2]int{{5, 3}}},
		{c, 1, []int{-1, -1, -1}, 1, nil}, {c, 7, []int{99, 99, 2}, 3, nil},
	} {
		g := graph.New(3)
		got := look.Copy(g, q.c, q.l, q.by)
		if got != q.want || g.Err() != nil || !slices.Equal(g.Circuit().Ands, q.ands) {
			t.Errorf("%d: Copy of %d by %v = %d of %v, %v, want %d of %v", i, q.l, q.by, got, g.Circuit().Ands, g.Err(), q.want, q.ands)
		}
	}
}

// TestCopyThere: gates that are there are taken, and what is new stands behind
// them; inputs may be gates there.
func TestCopyThere(t *testing.T) {
	c := some()
	g := graph.New(4)
	ands := [][2]int{{7, 5}, {9, 2}}
	g.And(5, 7)
	g.And(2, 9)
	check(t, "one that is there", g, look.Copy(g, c, 11, []int{0, 4, 6}), 11, ands, nil)
	ands = append(ands, [2]int{4, 2}, [2]int{14, 11})
	check(t, "one that is there, and two", g, look.Copy(g, c, 14, []int{2, 4, 6}), 16, ands, nil)
	check(t, "again", g, look.Copy(g, c, 14, []int{2, 4, 6}), 16, ands, nil)
	check(t, "the other way round", g, look.Copy(g, c, 9, []int{4, 2}), 15, ands, nil)
	ands = append(ands, [2]int{17, 12})
	check(t, "of gates", g, look.Copy(g, c, 8, []int{17, 12}), 18, ands, nil)
	check(t, "a gate as it is", g, look.Copy(g, c, 3, []int{18}), 19, ands, nil)
}

// TestCopyErr: what And meets is g's Err, and a 0; gates ahead of it stay, and
// the others are made of that 0.
func TestCopyErr(t *testing.T) {
	c := some()
	for _, none := range []int{8, 9, 99, -1, -2, math.MaxInt, math.MinInt} {
		g := graph.New(3)
		check(t, "no literal", g, look.Copy(g, c, 8, []int{2, none}), 0, nil, api.ErrRange)
		g = graph.New(3)
		check(t, "the opposite", g, look.Copy(g, c, 9, []int{none, 4}), 1, nil, api.ErrRange)
		if none < 8 || none > 9 { // the gate made ahead is 8
			g = graph.New(3)
			check(t, "the second gate", g, look.Copy(g, c, 14, []int{2, 4, none}), 8, [][2]int{{4, 2}}, api.ErrRange)
		}
	}
	const most = api.MaxNodes
	g := graph.New(most)
	check(t, "no room", g, look.Copy(g, c, 9, []int{2, 4, 6}), 1, nil, api.ErrLimit)
	g = graph.New(most - 1)
	check(t, "room for one", g, look.Copy(g, c, 8, []int{2, 4, 6}), 2*most, [][2]int{{4, 2}}, nil)
	check(t, "that one again", g, look.Copy(g, c, 8, []int{2, 4, 6}), 2*most, [][2]int{{4, 2}}, nil)
	check(t, "one more", g, look.Copy(g, c, 14, []int{2, 4, 6}), 2*most, [][2]int{{4, 2}}, api.ErrLimit)
	g = graph.New(most - 2)
	check(t, "all but the last", g, look.Copy(g, c, 14, []int{2, 4, 6}), 0, [][2]int{{4, 2}, {7, 5}}, api.ErrLimit)
	g = graph.New(most - 3)
	check(t, "room for all", g, look.Copy(g, c, 14, []int{2, 4, 6}), 2*most, [][2]int{{4, 2}, {7, 5}, {2*most - 1, 2*most - 4}}, nil)
}

// TestNoLiteral: of what is no literal there is nothing.
func TestNoLiteral(t *testing.T) {
	for _, c := range []api.Circuit{{}, circuit(2, nil), some(), some(14, 3)} {
		last := 2*(c.Inputs+len(c.Ands)) + 1
		for _, l := range []int{last + 1, last + 2, last + 3, 2 * last, 1 << 40, math.MaxInt, math.MaxInt - 1, -1, -2, -3, -last, math.MinInt, math.MinInt + 1} {
			checkNothing(t, c, l)
		}
		if got := look.Copy(graph.New(3), c, 1, nil); got != 1 {
			t.Error("of a right one:", got)
		}
	}
}

// checkNothing looks whether l has neither Cone, Support nor Copy.
func checkNothing(t *testing.T, c api.Circuit, l int) {
	t.Helper()
	if cone, support := look.Cone(c, l), look.Support(c, l); len(cone) != 0 || len(support) != 0 {
		t.Errorf("of %v, %d: %v, %v", c, l, cone, support)
	}
	g := graph.New(3)
	check(t, "Copy", g, look.Copy(g, c, l, []int{2, 5, 6}), 0, nil, nil)
}

// TestNotRight: of a circuit that is not right there is nothing.
func TestNotRight(t *testing.T) {
	const most = api.MaxNodes
	ands := [][2]int{{4, 2}, {7, 3}}
	for _, c := range []api.Circuit{
		circuit(-1, nil, 0), circuit(-1, ands), circuit(-2, ands, 0), circuit(math.MinInt, ands, 1),
		circuit(most+1, nil, 1), circuit(most-1, ands, 1), circuit(math.MaxInt, ands, 1), circuit(0, make([][2]int, most+1), 1),
		circuit(2, [][2]int{{6, 2}}, 1), circuit(2, [][2]int{{7, 2}}, 1), circuit(2, [][2]int{{2, 4}}, 1), circuit(2, [][2]int{{4, 5}}, 1),
		circuit(2, [][2]int{{8, 2}, {4, 2}}, 1), circuit(2, [][2]int{{4, -1}}, 1), circuit(2, [][2]int{{-1, -2}}, 1), circuit(2, [][2]int{{math.MaxInt, 2}}, 1),
		circuit(2, ands, 1, 10), circuit(2, ands, 1, -1), circuit(2, ands, 8, math.MaxInt), circuit(2, ands, math.MinInt), circuit(0, nil, 2),
		circuit(2, append(slices.Clone(ands), [2]int{10, 10}), 8),
	} {
		in := []bool{true, false, true}
		if nodes, eval, depth := look.Nodes(c, in), look.Eval(c, in...), look.Depth(c); len(nodes) != 0 || len(eval) != 0 || depth != 0 {
			t.Errorf("of %d inputs, %v: %v, %v, %d", c.Inputs, c.Outs, nodes, eval, depth)
		}
		for l := -1; l < 12; l++ {
			checkNothing(t, c, l)
		}
		for _, l := range []int{2 * most, 2*most + 1, 2*most + 2, math.MaxInt, math.MinInt} {
			checkNothing(t, c, l)
		}
	}
}

// worth is what l is worth, as the words say it.
func worth(c api.Circuit, l int, in []bool) bool {
	switch n := l / 2; {
	case l%2 == 1:
		return !worth(c, l-1, in)
	case n == 0:
		return false
	case n <= c.Inputs:
		return n <= len(in) && in[n-1]
	default:
		and := c.Ands[n-c.Inputs-1]
		return worth(c, and[0], in) && worth(c, and[1], in)
	}
}

// ways calls f with each way from l's node down by gates to a node of none: the
// nodes on it.
func ways(c api.Circuit, l int, ahead []int, f func(nodes []int)) {
	n := l / 2
	here := append(slices.Clone(ahead), n)
	if n <= c.Inputs {
		f(here)
		return
	}
	for _, l := range c.Ands[n-c.Inputs-1] {
		ways(c, l, here, f)
	}
}

// circuits calls f with all circuits of so many inputs and gates, one output
// each.
func circuits(inputs, gates int, ands [][2]int, f func(c api.Circuit)) {
	last := 2*(inputs+len(ands)) + 1
	if len(ands) == gates {
		for l := range last + 1 {
			f(circuit(inputs, slices.Clone(ands), l))
		}
		return
	}
	for a := range last + 1 {
		for b := range a + 1 {
			circuits(inputs, gates, append(slices.Clone(ands), [2]int{a, b}), f)
		}
	}
}

// TestAll holds all calls on all small circuits against the words.
func TestAll(t *testing.T) {
	many := 0
	each := func(c api.Circuit) {
		many++
		checkWorth(t, c)
		checkHangs(t, c)
		checkCopy(t, c)
	}
	circuits(0, 3, nil, each)
	circuits(1, 2, nil, each)
	circuits(2, 2, nil, each)
	circuits(3, 1, nil, each)
	if want := 3*10*21*8 + 10*21*8 + 21*36*10 + 36*10; many != want {
		t.Error(many, want)
	}
}

// checkWorth holds Nodes and Eval against the words, for all values of the
// inputs, fewer and more of them too.
func checkWorth(t *testing.T, c api.Circuit) {
	t.Helper()
	for many := range c.Inputs + 2 {
		for n := range 1 << many {
			in := values(many, n)
			var want []bool
			for node := range 1 + c.Inputs + len(c.Ands) {
				want = append(want, worth(c, 2*node, in))
			}
			nodes, eval := look.Nodes(c, in), look.Eval(c, in...)
			if !slices.Equal(nodes, want) || !slices.Equal(eval, []bool{worth(c, c.Outs[0], in)}) {
				t.Fatalf("%v of %v: %v, %v, want %v", c, in, nodes, eval, want)
			}
		}
	}
}

// checkHangs holds Cone, Support and Depth of c's output against all ways to it.
func checkHangs(t *testing.T, c api.Circuit) {
	t.Helper()
	var cone, support []int
	depth := 0
	ways(c, c.Outs[0], nil, func(nodes []int) {
		for _, n := range nodes {
			if n > c.Inputs {
				cone = append(cone, n)
			} else if n > 0 {
				support = append(support, n-1)
			}
		}
		depth = max(depth, len(nodes)-1)
	})
	slices.Sort(cone)
	slices.Sort(support)
	cone, support = slices.Compact(cone), slices.Compact(support)
	if got := look.Cone(c, c.Outs[0]); !slices.Equal(got, cone) {
		t.Fatalf("Cone of %v: %v, want %v", c, got, cone)
	}
	if got := look.Support(c, c.Outs[0]); !slices.Equal(got, support) {
		t.Fatalf("Support of %v: %v, want %v", c, got, support)
	}
	if got := look.Depth(c); got != depth {
		t.Fatalf("Depth of %v: %d, want %d", c, got, depth)
	}
}

// checkCopy looks whether the Copy of c's output is worth what that is, and its
// gates are those of the Cone, one by one.
func checkCopy(t *testing.T, c api.Circuit) {
	t.Helper()
	for _, by := range [][]int{{2, 4, 6}, {5, 2, 7}, {4}, {3, 3, 3}, {1, 6, 0}, {6, 7, 1, 2}} {
		g, plain := graph.New(3), graph.New(3)
		l := look.Copy(g, c, c.Outs[0], by)
		made := map[int]int{} // of each node of the Cone its literal
		there := func(l int) int {
			n, out := l/2, 0
			if n > c.Inputs {
				out = made[n]
			} else if n > 0 && n <= len(by) {
				out = by[n-1]
			}
			return out ^ l&1
		}
		for _, n := range look.Cone(c, c.Outs[0]) {
			and := c.Ands[n-c.Inputs-1]
			made[n] = plain.And(there(and[0]), there(and[1]))
		}
		check(t, "Copy", g, l, there(c.Outs[0]), plain.Circuit().Ands, nil)
		for n := range 8 {
			in := values(3, n)
			var inner []bool
			for _, l := range by {
				inner = append(inner, worth(g.Circuit(), l, in))
			}
			if worth(g.Circuit(), l, in) != worth(c, c.Outs[0], inner) {
				t.Fatalf("Copy of %v by %v: %d of %v, of %v", c, by, l, g.Circuit(), in)
			}
		}
	}
}

// TestMany: as many nodes as may be, with more ways between them than could be
// gone one by one.
func TestMany(t *testing.T) {
	const most = api.MaxNodes
	c := circuit(1, nil)
	var cone []int
	for n := 2; n <= most; n++ {
		l := 2 * (n - 1)
		c.Ands = append(c.Ands, [2]int{l, l})
		cone = append(cone, n)
	}
	c.Outs = slices.Repeat([]int{2 * most, 2*most + 1}, most)
	if got := look.Depth(c); got != most-1 {
		t.Error("Depth:", got)
	}
	if got := look.Cone(c, 2*most); !slices.Equal(got, cone) {
		t.Error("Cone:", len(got))
	}
	if got := look.Support(c, 2*most+1); !slices.Equal(got, []int{0}) {
		t.Error("Support:", got)
	}
	if got := look.Eval(c, true); !slices.Equal(got, slices.Repeat([]bool{true, false}, most)) {
		t.Error("Eval:", len(got))
	}
	g := graph.New(1)
	check(t, "Copy", g, look.Copy(g, c, 2*most+1, []int{2}), 3, nil, nil)
	all := circuit(most, nil, 2*most)
	in := values(most, 0)
	in[most-1] = true
	if nodes := look.Nodes(all, in); len(nodes) != most+1 || !nodes[most] || nodes[1] || !look.Eval(all, in...)[0] {
		t.Error("Nodes of inputs alone:", len(nodes))
	}
	if got := look.Support(all, 2*most); !slices.Equal(got, []int{most - 1}) || len(look.Cone(all, 2*most)) != 0 {
		t.Error("Support of inputs alone:", got)
	}
}

// TestMemory: what is handed in is neither changed nor kept, nor is what lies
// behind it read or written; each list handed out is new.
func TestMemory(t *testing.T) {
	c := some(14, 3, 99)
	c.Outs = c.Outs[:2]
	ands := append(slices.Clone(c.Ands), [2]int{77, 78}, [2]int{79, 80})
	c.Ands = ands[:6]
	in, by := []bool{true, true, true, true}, []int{2, 4, 6, 8}
	g := graph.New(3)
	for range 2 {
		nodes, eval := look.Nodes(c, in[:2]), look.Eval(c, in[:2]...)
		cone, support := look.Cone(c, 14), look.Support(c, 14)
		if !slices.Equal(nodes, []bool{false, true, true, false, true, false, false, true, false, false}) || !slices.Equal(eval, []bool{true, false}) {
			t.Error(nodes, eval)
		}
		if !slices.Equal(cone, []int{4, 5, 7}) || !slices.Equal(support, []int{0, 1, 2}) || look.Copy(g, c, 10, by[:2]) != 5 || look.Depth(c) != 2 {
			t.Error(cone, support, g.Circuit())
		}
		for _, list := range [][]bool{nodes[:cap(nodes)], eval[:cap(eval)]} {
			for i := range list {
				list[i] = i%2 == 0
			}
		}
		for _, list := range [][]int{cone[:cap(cone)], support[:cap(support)]} {
			for i := range list {
				list[i] = 55
			}
		}
	}
	if !slices.Equal(c.Ands, some().Ands) || !slices.Equal(c.Outs[:3], []int{14, 3, 99}) || ands[6] != [2]int{77, 78} || ands[7] != [2]int{79, 80} {
		t.Error(c, ands)
	}
	if !slices.Equal(in, []bool{true, true, true, true}) || !slices.Equal(by, []int{2, 4, 6, 8}) || g.Len() != 3 {
		t.Error(in, by, g.Len())
	}
	l := look.Copy(g, c, 14, by)
	c.Ands[0], c.Ands[1], by[0] = [2]int{0, 0}, [2]int{0, 0}, 0
	check(t, "Copy", g, l, 12, [][2]int{{4, 2}, {7, 5}, {11, 8}}, nil)
}
