package prefix_test

import (
	"fmt"
	"math"
	"slices"
	"testing"

	"skolem/api"
	"skolem/lits"
	"skolem/prefix"
	"skolem/qdimacs"
)

const lowest = -1<<62 + 1 // the least literal of which something is asked

// forall and exists are blocks of these variables.
func forall(vars ...int) api.Block { return api.Block{Vars: vars} }
func exists(vars ...int) api.Block { return api.Block{Exists: true, Vars: vars} }

// list is these blocks, clauses these clauses.
func list(b ...api.Block) []api.Block { return b }
func clauses(c ...[]int) [][]int      { return c }

// formula is one of these blocks and clauses.
func formula(vars int, blocks []api.Block, c ...[]int) api.Formula {
	return api.Formula{Blocks: blocks, CNF: api.CNF{Vars: vars, Clauses: c}}
}

// game is one of these variables and clauses.
func game(exists bool, outer, inner []int, c ...[]int) api.Game {
	return api.Game{Exists: exists, Outer: outer, Inner: inner, Clauses: c}
}

// sameBlocks, sameClauses and sameGame tell whether these are the same, their
// lists in order.
func sameBlocks(a, b []api.Block) bool {
	return slices.EqualFunc(a, b, func(x, y api.Block) bool {
		return x.Exists == y.Exists && slices.Equal(x.Vars, y.Vars)
	})
}

func sameClauses(a, b [][]int) bool { return slices.EqualFunc(a, b, slices.Equal[[]int]) }

func sameGame(a, b api.Game) bool {
	return a.Exists == b.Exists && slices.Equal(a.Outer, b.Outer) && slices.Equal(a.Inner, b.Inner) && sameClauses(a.Clauses, b.Clauses)
}

func TestFree(t *testing.T) {
	for _, x := range []struct {
		f    api.Formula
		want []int
	}{
		{api.Formula{}, nil},
		{formula(3, nil), nil}, // in no clause
		{formula(3, nil, nil, nil), nil},
		{formula(3, nil, []int{2}), []int{2}},
		{formula(3, nil, []int{-2}), []int{2}},
		{formula(3, nil, []int{3, -1, 2}), []int{1, 2, 3}},
		{formula(3, nil, []int{3, 3, -3}, []int{1, 3}, nil, []int{-1}), []int{1, 3}},
		{formula(12, nil, []int{10, 9}, []int{-11, -2}), []int{2, 9, 10, 11}},
		// in a block
		{formula(3, list(exists(1), forall(2, 3)), []int{1, -2, 3}), nil},
		{formula(3, list(exists(1, 2, 3))), nil},
		{formula(4, list(exists(2), forall(), forall(4)), []int{-4, 3, -2, -1}), []int{1, 3}},
		{formula(4, list(exists(4), exists(3), exists(1)), []int{1, -2}, []int{-3, 4}), []int{2}},
		{formula(4, list(exists(2, 2), forall(2)), []int{2, 1}), []int{1}},
		// of a 0: 0
		{formula(3, nil, []int{0}), []int{0}},
		{formula(3, nil, []int{2, 0, -1, 0}), []int{0, 1, 2}},
		{formula(3, list(forall(2)), []int{2, 0}), []int{0}},
		{formula(3, list(forall(0)), []int{2, 0}), []int{2}},
		// whatever Check says of it
		{formula(0, nil, []int{5}), []int{5}},
		{formula(-7, list(forall(9, 9)), []int{5, -9}), []int{5}},
		{formula(3, nil, []int{math.MaxInt, lowest, 4001, 1}), []int{1, 4001, -lowest, math.MaxInt}},
		{formula(3, list(exists(math.MaxInt)), []int{lowest, math.MaxInt}), []int{-lowest}},
		{formula(3, list(exists(-3)), []int{-3}), []int{3}}, // -3 is a block's, but no variable
	} {
		if got := prefix.Free(x.f); !slices.Equal(got, x.want) {
			t.Errorf("Free(%v) = %v, want %v", x.f, got, x.want)
		}
	}
}

func TestMerge(t *testing.T) {
	for _, x := range []struct{ l, want []api.Block }{
		{nil, nil},
		{list(), nil},
		{list(exists()), nil},
		{list(forall(), exists(), forall(), forall()), nil},
		{list(exists(1)), list(exists(1))},
		{list(forall(2, 1)), list(forall(2, 1))},
		// neighbours
		{list(exists(1), exists(2)), list(exists(1, 2))},
		{list(forall(1), forall(2)), list(forall(1, 2))},
		{list(exists(1), forall(2)), list(exists(1), forall(2))},
		{list(forall(1), exists(2)), list(forall(1), exists(2))},
		{list(forall(3, 1), forall(4, 2), forall(5)), list(forall(3, 1, 4, 2, 5))}, // in order, not by number
		{list(forall(1), exists(2), forall(3)), list(forall(1), exists(2), forall(3))},
		{list(exists(4), exists(3), forall(2), exists(1), exists(6), exists(5)), list(exists(4, 3), forall(2), exists(1, 6, 5))},
		// those that are so because what lay between them is left out
		{list(exists(1), forall(), exists(2)), list(exists(1, 2))},
		{list(exists(), forall(1), exists(), exists(), forall(2), exists()), list(forall(1, 2))},
		{list(forall(), exists(1), forall(), forall(2), exists(), exists(3)), list(exists(1), forall(2), exists(3))},
		// of what a variable is nothing is asked
		{list(exists(1, 1), exists(1)), list(exists(1, 1, 1))},
		{list(exists(0), forall(0), forall(-1)), list(exists(0), forall(0, -1))},
		{list(forall(math.MinInt), forall(math.MaxInt)), list(forall(math.MinInt, math.MaxInt))},
	} {
		if got := prefix.Merge(x.l...); !sameBlocks(got, x.want) {
			t.Errorf("Merge(%v) = %v, want %v", x.l, got, x.want)
		}
	}
	if got := prefix.Merge(); len(got) != 0 {
		t.Errorf("Merge of nothing: %v", got)
	}
	if got := prefix.Merge(forall(2), exists(1)); !sameBlocks(got, list(forall(2), exists(1))) {
		t.Errorf("Merge of two: %v", got)
	}
}

func TestNorm(t *testing.T) {
	for _, x := range []struct {
		f    api.Formula
		want api.Game
	}{
		// none
		{api.Formula{}, game(true, nil, nil)},
		{formula(3, nil), game(true, nil, nil)},
		{formula(3, list(forall(), exists(), forall())), game(true, nil, nil)},
		{formula(3, list(forall()), nil, nil), game(true, nil, nil, nil, nil)}, // the matrix may still be one
		// one
		{formula(3, list(exists(2, 1))), game(true, []int{2, 1}, nil)},
		{formula(3, list(forall(2, 1))), game(false, []int{2, 1}, nil)},
		{formula(3, list(forall(2, 1)), []int{-1, 2}), game(false, []int{2, 1}, nil, []int{-1, 2})},
		{formula(3, list(forall(2), exists(), forall(1, 3)), []int{1}, nil), game(false, []int{2, 1, 3}, nil, []int{1}, nil)},
		{formula(3, list(exists(), forall(2), exists())), game(false, []int{2}, nil)},
		// two
		{formula(3, list(exists(2), forall(1)), []int{1, 2}), game(true, []int{2}, []int{1}, []int{1, 2})},
		{formula(3, list(forall(3, 2), exists(1)), []int{1, 2}), game(false, []int{3, 2}, []int{1}, []int{1, 2})},
		{formula(4, list(forall(3), forall(4), exists(), exists(2), forall(), exists(1))), game(false, []int{3, 4}, []int{2, 1})},
		// those that are free
		{formula(3, nil, []int{3, -2}), game(true, []int{2, 3}, nil, []int{3, -2})},
		{formula(3, list(exists()), []int{3}), game(true, []int{3}, nil, []int{3})},
		{formula(3, list(exists(2)), []int{3, 1}), game(true, []int{1, 3, 2}, nil, []int{3, 1})}, // ahead of a block's
		{formula(3, list(forall(1)), []int{3, -1}), game(true, []int{3}, []int{1}, []int{3, -1})},
		{formula(4, list(exists(1), forall(3)), []int{-4, -2}), game(true, []int{2, 4, 1}, []int{3}, []int{-4, -2})},
		{formula(4, list(forall(), exists(1), forall(3)), []int{2}), game(true, []int{2, 1}, []int{3}, []int{2})},
		// the matrix as it stands
		{formula(3, list(forall(1), exists(2)), []int{2, -2, 2, 1}, nil, []int{2, -2, 2, 1}), game(false, []int{1}, []int{2}, []int{2, -2, 2, 1}, nil, []int{2, -2, 2, 1})},
	} {
		if got, err := prefix.Norm(x.f); !sameGame(got, x.want) || err != nil {
			t.Errorf("Norm(%v) = %v, %v, want %v", x.f, got, err, x.want)
		}
	}
}

func TestNormErrors(t *testing.T) {
	two := list(forall(1), exists(2))
	for _, x := range []struct {
		f    api.Formula
		want error // around pos, if that is not below 0
		pos  int
	}{
		{formula(3, list(forall(1), exists(2), forall(3))), api.ErrBlocks, -1},
		{formula(3, list(exists(1), forall(2), exists(3))), api.ErrBlocks, -1},
		{formula(4, list(exists(1), forall(2), exists(3), forall(4))), api.ErrBlocks, -1},
		{formula(3, list(exists(1), forall(), forall(2), exists(), exists(3))), api.ErrBlocks, -1},
		{formula(3, two, []int{3}), api.ErrBlocks, -1}, // a free one is a block more
		{formula(3, two, []int{1, -2}, []int{1, -3}), api.ErrBlocks, -1},
		// qdimacs.Check's, ahead of it
		{formula(3, list(forall(1), exists(2), forall(4))), api.ErrRange, 2},
		{formula(3, list(forall(1), exists(2), forall(3), exists(1))), api.ErrRange, 3},
		{formula(3, list(forall(0))), api.ErrRange, 0},
		{formula(3, list(exists(), forall(-1))), api.ErrRange, 1},
		{formula(3, list(forall(9)), []int{1}, []int{4}), api.ErrRange, 1},
		{formula(3, nil, []int{1}, nil, []int{0}), api.ErrRange, 2},
		{formula(3, list(forall(1), exists(2), forall(3)), []int{-4}), api.ErrRange, 0},
		{formula(-1, list(forall(1), exists(2), forall(3))), api.ErrLimit, -1},
		{formula(api.MaxVars+1, list(forall(1))), api.ErrLimit, -1},
		{formula(1, nil, make([][]int, api.MaxClauses+1)...), api.ErrLimit, -1},
		{formula(1, nil, slices.Repeat([]int{1}, api.MaxLits+1)), api.ErrLimit, -1},
	} {
		got, err := prefix.Norm(x.f)
		if !sameGame(got, api.Game{}) || !isErr(err, x.pos, x.want) {
			t.Errorf("Norm(%.200s) = %v, %v, want %d: %v", fmt.Sprint(x.f), got, err, x.pos, x.want)
		}
	}
}

// isErr tells whether err is this one, around this place, if that is not below 0.
func isErr(err error, pos int, this error) bool {
	if pos < 0 {
		return err == this
	}
	a, ok := err.(*api.At)
	return ok && a.Pos == pos && a.Err == this
}

func TestMatrix(t *testing.T) {
	for _, x := range []struct {
		g    api.Game
		want [][]int
		ok   bool
	}{
		{api.Game{}, nil, true},
		{game(true, []int{1}, []int{2}), nil, true},
		{game(true, nil, nil, nil), clauses(nil), true}, // no variable, none that is missed
		{game(true, []int{1}, []int{2}, []int{1, -2}), clauses([]int{1, -2}), true},
		{game(false, []int{2}, []int{1}, []int{1, -2}), clauses([]int{2, -1}), true},
		{game(false, []int{7, 3}, []int{9, 5}, []int{3, -9}, nil, []int{-5, 7}), clauses([]int{2, -3}, nil, []int{-4, 1}), true},
		{game(false, nil, []int{9, 5}, []int{5, -9}), clauses([]int{2, -1}), true},
		{game(false, []int{9, 5}, nil, []int{5, -9}), clauses([]int{2, -1}), true},
		{game(true, []int{4, 2}, []int{3}, []int{3, -3, 3, 4}, []int{3, -3, 3, 4}), clauses([]int{3, -3, 3, 1}, []int{3, -3, 3, 1}), true}, // order and repeats kept
		{game(true, []int{math.MaxInt}, []int{-lowest, 1}, []int{lowest, 1, math.MaxInt}), clauses([]int{-2, 3, 1}), true},
		{game(true, []int{6, 6, 8}, []int{6, 8, 1}, []int{6, -8, 1}), clauses([]int{1, -3, 6}), true}, // the first place of it
		{game(true, []int{0, 6}, []int{0, 1}, []int{6, -1}), clauses([]int{2, -4}), true},
		// one stands in neither
		{game(true, nil, nil, []int{1}), nil, false},
		{game(true, []int{1}, []int{2}, []int{3}), nil, false},
		{game(true, []int{1}, []int{2}, []int{-3}), nil, false},
		{game(true, []int{1}, []int{2}, []int{1, -2}, []int{2, 1, 4}, []int{1}), nil, false},
		{game(true, []int{1, 3}, []int{4}, []int{1, 2}), nil, false},
		{game(true, []int{-1}, []int{2}, []int{-1}), nil, false}, // -1 is in a list, but no variable
		{game(true, []int{1}, []int{2}, []int{math.MaxInt, lowest}), nil, false},
		// a 0 never does
		{game(true, []int{1}, []int{2}, []int{0}), nil, false},
		{game(true, []int{0}, []int{2}, []int{0}), nil, false},
		{game(true, []int{1}, []int{2, 0}, []int{1, 0, 2}), nil, false},
	} {
		if got, ok := prefix.Matrix(x.g); !sameClauses(got, x.want) || ok != x.ok {
			t.Errorf("Matrix(%v) = %v, %t, want %v, %t", x.g, got, ok, x.want, x.ok)
		}
	}
}

// everyPrefix calls f with each prefix of at most most blocks of variables 1 to
// 4, none of them twice, at most two in a block.
func everyPrefix(blocks []api.Block, most int, f func([]api.Block)) {
	f(blocks)
	if most == 0 {
		return
	}
	for _, vars := range lists(blocks) {
		for _, kind := range []bool{false, true} {
			next := api.Block{Exists: kind, Vars: vars}
			everyPrefix(append(slices.Clone(blocks), next), most-1, f)
		}
	}
}

// lists is the lists of at most two variables that are in none of the blocks.
func lists(blocks []api.Block) [][]int {
	var left []int
	for v := 1; v <= 4; v++ {
		if !slices.ContainsFunc(blocks, func(b api.Block) bool { return slices.Contains(b.Vars, v) }) {
			left = append(left, v)
		}
	}
	out := [][]int{nil}
	for _, v := range left {
		out = append(out, []int{v})
		for _, u := range left {
			if u != v {
				out = append(out, []int{v, u})
			}
		}
	}
	return out
}

// one is a variable and its kind.
type one struct {
	v      int
	exists bool
}

// plainly is what Norm tells of f, and Free, by a list of all variables as they
// are bound, one after another.
func plainly(f api.Formula) (g api.Game, free []int, ok bool) {
	var all []one
	for _, b := range f.Blocks {
		for _, v := range b.Vars {
			all = append(all, one{v, b.Exists})
		}
	}
	for v := f.CNF.Vars; v >= 1; v-- {
		isIn := slices.ContainsFunc(f.CNF.Clauses, func(c []int) bool { return slices.Contains(c, v) || slices.Contains(c, -v) })
		if isIn && !slices.Contains(all, one{v, true}) && !slices.Contains(all, one{v, false}) {
			free = slices.Insert(free, 0, v)
			all = slices.Insert(all, 0, one{v, true})
		}
	}
	g = api.Game{Exists: len(all) == 0 || all[0].exists, Clauses: f.CNF.Clauses}
	for _, x := range all {
		switch {
		case x.exists != g.Exists:
			g.Inner = append(g.Inner, x.v)
		case len(g.Inner) == 0:
			g.Outer = append(g.Outer, x.v)
		default:
			return api.Game{}, free, false
		}
	}
	return g, free, true
}

// TestNormOfAll goes through all short prefixes, ahead of several matrices.
func TestNormOfAll(t *testing.T) {
	right, wrong := 0, 0
	matrices := [][][]int{nil, {{1, -2}, {}}, {{-4}, {3, 4}, {-4, 4}}, {{4, 3, 2, 1}}}
	everyPrefix(nil, 3, func(blocks []api.Block) {
		for _, c := range matrices {
			f := formula(4, blocks, c...)
			want, free, ok := plainly(f)
			if got := prefix.Free(f); !slices.Equal(got, free) {
				t.Fatalf("Free(%v) = %v, want %v", f, got, free)
			}
			got, err := prefix.Norm(f)
			if !sameGame(got, want) || !ok && err != api.ErrBlocks || ok && err != nil {
				t.Fatalf("Norm(%v) = %v, %v, want %v, %t", f, got, err, want, ok)
			}
			if !ok {
				wrong++
				continue
			}
			right++
			checkMatrix(t, got)
		}
	})
	if right < 1000 || wrong < 1000 {
		t.Errorf("%d are games, %d are none", right, wrong)
	}
}

// checkMatrix tells where a literal of Matrix of g isn't the place of the
// literal's variable, its sign kept.
func checkMatrix(t *testing.T, g api.Game) {
	t.Helper()
	m, ok := prefix.Matrix(g)
	if !ok || len(m) != len(g.Clauses) {
		t.Fatalf("Matrix(%v) = %v, %t", g, m, ok)
	}
	for i, c := range m {
		var back []int
		for _, l := range c {
			v := lits.Var(l)
			switch outer := len(g.Outer); {
			case v <= outer:
				v = g.Outer[v-1]
			default:
				v = g.Inner[v-1-outer]
			}
			if l < 0 {
				v = -v
			}
			back = append(back, v)
		}
		if !slices.Equal(back, g.Clauses[i]) {
			t.Fatalf("Matrix(%v) = %v", g, m)
		}
	}
}

// TestMergeOfAll: Merge tells the same variables of the same kinds in the same
// order, in as few blocks as may be.
func TestMergeOfAll(t *testing.T) {
	each := func(l []api.Block) (all []one) {
		for _, b := range l {
			for _, v := range b.Vars {
				all = append(all, one{v, b.Exists})
			}
		}
		return all
	}
	everyPrefix(nil, 4, func(l []api.Block) {
		got := prefix.Merge(l...)
		if !slices.Equal(each(got), each(l)) {
			t.Fatalf("Merge(%v) = %v", l, got)
		}
		for i, b := range got {
			if len(b.Vars) == 0 || i > 0 && got[i-1].Exists == b.Exists {
				t.Fatalf("Merge(%v) = %v", l, got)
			}
		}
	})
}

func TestLimits(t *testing.T) {
	var odd, even, free, long []int
	for v := 1; v <= api.MaxVars; v++ {
		switch {
		case v%4 == 0:
			free = append(free, v)
		case v%2 == 0:
			even = append(even, v)
		default:
			odd = append(odd, v)
		}
	}
	for i := range api.MaxLits {
		l := api.MaxVars - i%api.MaxVars
		if i%3 == 0 {
			l = -l
		}
		long = append(long, l)
	}
	f := formula(api.MaxVars, list(exists(even...), forall(odd...)), long)
	g, err := prefix.Norm(f)
	if err != nil || !sameGame(g, game(true, slices.Concat(free, even), odd, long)) {
		t.Fatal("of all that may be:", err)
	}
	checkMatrix(t, g)
	f.CNF.Clauses = slices.Repeat(clauses([]int{-1, 2, 3, -4}), api.MaxClauses)
	if g, err = prefix.Norm(f); err != nil || len(g.Clauses) != api.MaxClauses {
		t.Fatal("of all clauses that may be:", err)
	}
	checkMatrix(t, g)
	const many = 100000 // blocks have no limit
	blocks := slices.Repeat(list(forall(), exists()), many)
	blocks[0], blocks[many] = forall(3), forall(2)
	if g, err := prefix.Norm(formula(3, blocks)); err != nil || !sameGame(g, game(false, []int{3, 2}, nil)) {
		t.Error("of many blocks:", g, err)
	}
}

// TestOfText: what qdimacs reads is a game, as it is written.
func TestOfText(t *testing.T) {
	f, err := qdimacs.Read([]byte("p cnf 5 2\na 0\ne 5 0\na 0\ne 2 0\na 3 1 0\n1 -2 0\n4 3 -5 0\n"))
	if err != nil {
		t.Fatal(err)
	}
	g, err := prefix.Norm(f)
	if err != nil || !sameGame(g, game(true, []int{4, 5, 2}, []int{3, 1}, []int{1, -2}, []int{4, 3, -5})) {
		t.Error(g, err)
	}
	if m, ok := prefix.Matrix(g); !ok || !sameClauses(m, clauses([]int{5, -3}, []int{1, 4, -2})) {
		t.Error(m, ok)
	}
}

// fill writes x all over list, its spare room too.
func fill[T any](list []T, x T) {
	list = list[:cap(list)]
	for i := range list {
		list[i] = x
	}
}

// TestMemory: what is handed in is neither changed nor kept.
func TestMemory(t *testing.T) {
	handed := func() api.Formula {
		return formula(5, list(exists(1), exists(), exists(5), forall(3, 2)), []int{1, -2}, []int{4, 3}, []int{-5})
	}
	want := game(true, []int{4, 1, 5}, []int{3, 2}, []int{1, -2}, []int{4, 3}, []int{-5})
	merged := list(exists(1, 5), forall(3, 2))
	f := handed()
	g, err := prefix.Norm(f)
	m, ok := prefix.Matrix(g)
	free, blocks := prefix.Free(f), prefix.Merge(f.Blocks...)
	if err != nil || !ok || !sameBlocks(f.Blocks, handed().Blocks) || !sameClauses(f.CNF.Clauses, handed().CNF.Clauses) || !sameGame(g, want) {
		t.Fatal(f, g, err)
	}
	for _, b := range f.Blocks {
		fill(b.Vars, 99)
	}
	for _, c := range f.CNF.Clauses {
		fill(c, 99)
	}
	fill(f.Blocks, exists(9))
	fill(f.CNF.Clauses, nil)
	if !sameGame(g, want) || !slices.Equal(free, []int{4}) || !sameBlocks(blocks, merged) {
		t.Error("what was handed in is kept", g, free, blocks)
	}
	shown := clauses([]int{2, -5}, []int{1, 4}, []int{-3})
	for _, c := range g.Clauses {
		fill(c, 99)
	}
	fill(g.Outer, 98)
	fill(g.Inner, 97)
	fill(g.Clauses, nil)
	if !sameClauses(m, shown) {
		t.Error("Matrix keeps what it was handed", m)
	}
}

// TestLists: no two lists that are handed out share memory, spare room too.
func TestLists(t *testing.T) {
	f := formula(5, list(exists(1), exists(5), forall(3), forall(2)), []int{1, -2}, []int{4, 3}, []int{-5}, nil)
	norm := func() [][]int {
		g, _ := prefix.Norm(f)
		return append([][]int{g.Outer, g.Inner}, g.Clauses...)
	}
	for name, call := range map[string]func() [][]int{
		"Norm": norm,
		"Matrix": func() [][]int {
			g, _ := prefix.Norm(f)
			m, _ := prefix.Matrix(g)
			return m
		},
		"Merge": func() (out [][]int) {
			for _, b := range prefix.Merge(f.Blocks...) {
				out = append(out, b.Vars)
			}
			return out
		},
		"Free": func() [][]int { return [][]int{prefix.Free(f)} },
	} {
		got, other, old := call(), call(), call()
		if len(got) == 0 || !sameClauses(got, old) {
			t.Fatal(name, got, old)
		}
		for i := range got { // all of one is overwritten: the others show nothing of it
			fill(got[i], 99)
			if !sameClauses(got[i+1:], old[i+1:]) || !sameClauses(other, old) {
				t.Error(name, "lists share memory", i, got, other)
			}
		}
	}
	g, _ := prefix.Norm(f)
	h, _ := prefix.Norm(f)
	m, _ := prefix.Matrix(h)
	n, _ := prefix.Matrix(h)
	a, b := prefix.Merge(f.Blocks...), prefix.Merge(f.Blocks...)
	fill(g.Clauses, []int{9})
	fill(m, []int{9})
	fill(a, forall(9))
	if len(h.Clauses) != 4 || !sameClauses(h.Clauses, f.CNF.Clauses) || !sameClauses(n, clauses([]int{2, -5}, []int{1, 4}, []int{-3}, nil)) || !sameBlocks(b, list(exists(1, 5), forall(3, 2))) {
		t.Error("answers share memory", h, n, b)
	}
}

// TestBehind: what lies behind the length of what is handed in is neither read
// nor written.
func TestBehind(t *testing.T) {
	vars, other, clause := []int{1, 7, 7, 7}, []int{2, 8, 8, 8}, []int{1, 3, 9, 9}
	blocks := list(exists(vars[:1]...), exists(other[:1]...), forall(3), exists(4))
	c := clauses(clause[:2], []int{2}, []int{5})
	f := formula(3, blocks[:3], c[:2]...)
	g, err := prefix.Norm(f)
	if err != nil || !sameGame(g, game(true, []int{1, 2}, []int{3}, []int{1, 3}, []int{2})) {
		t.Error(g, err)
	}
	if got := prefix.Merge(f.Blocks...); !sameBlocks(got, list(exists(1, 2), forall(3))) {
		t.Error(got)
	}
	if got := prefix.Free(formula(3, blocks[:1], c[:2]...)); !slices.Equal(got, []int{2, 3}) {
		t.Error(got)
	}
	h := game(true, vars[:1], other[:1], clause[:1], []int{9})
	h.Clauses = h.Clauses[:1]
	if m, ok := prefix.Matrix(h); !ok || !sameClauses(m, clauses([]int{1})) {
		t.Error(m, ok)
	}
	if m, ok := prefix.Matrix(game(true, vars[:1], other[:1], []int{7})); ok || len(m) != 0 {
		t.Error(m, ok)
	}
	if !slices.Equal(vars, []int{1, 7, 7, 7}) || !slices.Equal(other, []int{2, 8, 8, 8}) || !slices.Equal(clause, []int{1, 3, 9, 9}) ||
		!sameBlocks(blocks[3:], list(exists(4))) || !sameClauses(c[2:], clauses([]int{5})) {
		t.Error("written behind the length", vars, other, clause, blocks, c)
	}
}
