package lits_test

import (
	"errors"
	"math"
	"slices"
	"strconv"
	"testing"

	"skolem/api"
	"skolem/lits"
)

const lowest = -1<<62 + 1 // the least literal of which something is asked

func TestVar(t *testing.T) {
	for _, x := range []struct{ l, want int }{
		{0, 0}, {1, 1}, {-1, 1}, {7, 7}, {-7, 7},
		{math.MaxInt, math.MaxInt}, {lowest, 1<<62 - 1},
	} {
		if got := lits.Var(x.l); got != x.want {
			t.Errorf("Var(%d) = %d, want %d", x.l, got, x.want)
		}
	}
}

func TestIs(t *testing.T) {
	for _, x := range []struct {
		l, vars int
		want    bool
	}{
		{1, 1, true}, {-1, 1, true}, {5, 5, true}, {-5, 5, true}, {3, 5, true}, {-3, 5, true},
		{6, 5, false}, {-6, 5, false}, {0, 5, false},
		{0, 0, false}, {1, 0, false}, {-1, 0, false},
		{0, -1, false}, {1, -1, false}, {-1, -1, false}, {-2, -1, false}, {-5, -5, false}, {1, math.MinInt, false},
		{math.MaxInt, math.MaxInt, true}, {math.MaxInt, api.MaxVars, false},
		{lowest, math.MaxInt, true}, {lowest, api.MaxVars, false},
	} {
		if got := lits.Is(x.l, x.vars); got != x.want {
			t.Errorf("Is(%d, %d) = %t", x.l, x.vars, got)
		}
	}
}

func TestNorm(t *testing.T) {
	for _, x := range []struct {
		c, want []int
		says    bool
	}{
		{nil, nil, true},
		{[]int{}, nil, true},
		{[]int{5}, []int{5}, true},
		{[]int{2, -1, 2}, []int{-1, 2}, true},
		{[]int{3, 2, 1}, []int{1, 2, 3}, true},
		{[]int{3, -2, 1}, []int{1, -2, 3}, true},
		{[]int{10, -9, 2}, []int{2, -9, 10}, true},
		{[]int{-4, -4, -4}, []int{-4}, true},
		{[]int{1, -1}, []int{-1, 1}, false},
		{[]int{-1, 1}, []int{-1, 1}, false},
		{[]int{3, 1, 3, -3, 1}, []int{1, -3, 3}, false},
		{[]int{1, 2, 3, -1}, []int{-1, 1, 2, 3}, false},
		{[]int{0}, []int{0}, true},
		{[]int{0, 0}, []int{0}, true},
		{[]int{1, 0, -2, 0}, []int{0, 1, -2}, true},
		{[]int{-2, 0, 2, 0}, []int{0, -2, 2}, false},
		{[]int{math.MaxInt, lowest, 0, math.MaxInt, -1}, []int{0, -1, lowest, math.MaxInt}, true},
		{[]int{-lowest, lowest}, []int{lowest, -lowest}, false},
	} {
		old := slices.Clone(x.c)
		got, says := lits.Norm(x.c...)
		if !slices.Equal(got, x.want) || says != x.says {
			t.Errorf("Norm(%v) = %v, %t, want %v, %t", old, got, says, x.want, x.says)
		}
		if !slices.Equal(x.c, old) {
			t.Errorf("Norm(%v) left %v of it", old, x.c)
		}
	}
	if got, says := lits.Norm(); len(got) != 0 || !says {
		t.Error("Norm() =", got, says)
	}
	if got, says := lits.Norm(2, -1, 2); !slices.Equal(got, []int{-1, 2}) || !says {
		t.Error("Norm(2, -1, 2) =", got, says)
	}
}

// eachClause goes through all lists of up to long literals of -vars to vars, 0 too.
func eachClause(vars, long int, do func(c []int)) {
	var grow func(c []int)
	grow = func(c []int) {
		do(c)
		if len(c) == long {
			return
		}
		for l := -vars; l <= vars; l++ {
			grow(append(slices.Clone(c), l))
		}
	}
	grow(nil)
}

// norm is what Norm is to answer, by asking for each literal whether it is there.
func norm(c []int, vars int) ([]int, bool) {
	var out []int
	says := true
	if slices.Contains(c, 0) {
		out = append(out, 0)
	}
	for v := 1; v <= vars; v++ {
		minus, plus := slices.Contains(c, -v), slices.Contains(c, v)
		if minus {
			out = append(out, -v)
		}
		if plus {
			out = append(out, v)
		}
		says = says && !(minus && plus)
	}
	return out, says
}

func TestNormOfAll(t *testing.T) {
	eachClause(3, 4, func(c []int) {
		want, wantSays := norm(c, 3)
		if got, says := lits.Norm(c...); !slices.Equal(got, want) || says != wantSays {
			t.Errorf("Norm(%v) = %v, %t, want %v, %t", c, got, says, want, wantSays)
		}
	})
}

func TestCheck(t *testing.T) {
	clauses := func(n int, c ...int) [][]int { return slices.Repeat([][]int{c}, n) }
	long := func(n, l int) []int { return slices.Repeat([]int{l}, n) }
	right := []api.CNF{
		{},
		{Clauses: [][]int{nil, {}}},
		{Vars: 1, Clauses: [][]int{{1, -1, 1}}},
		{Vars: 3, Clauses: [][]int{{1, -2}, nil, {3, -3, 3}}},
		{Vars: api.MaxVars, Clauses: [][]int{{api.MaxVars, -api.MaxVars}}},
		{Clauses: clauses(api.MaxClauses)},
		{Vars: 1, Clauses: clauses(api.MaxClauses, 1, -1, 1, -1)},
		{Vars: 1, Clauses: [][]int{long(api.MaxLits, -1)}},
	}
	for i, c := range right {
		if err := lits.Check(c); err != nil {
			t.Errorf("right %d: %v", i, err)
		}
	}
	// ErrLimit stands alone, and ahead of ErrRange wherever that is met.
	limit := []api.CNF{
		{Vars: -1},
		{Vars: math.MinInt},
		{Vars: -1, Clauses: [][]int{{1}}},
		{Vars: api.MaxVars + 1},
		{Vars: math.MaxInt},
		{Vars: api.MaxVars + 1, Clauses: [][]int{{0}}},
		{Clauses: clauses(api.MaxClauses + 1)},
		{Vars: 1, Clauses: append([][]int{{2}}, clauses(api.MaxClauses, 1)...)},
		{Vars: 1, Clauses: [][]int{long(api.MaxLits+1, 1)}},
		{Vars: 1, Clauses: [][]int{long(api.MaxLits+1, 2)}},
		{Vars: 1, Clauses: append(clauses(api.MaxClauses-1, 1, 1, 1, 1), long(5, 1))},
		{Vars: 1, Clauses: [][]int{{0}, long(api.MaxLits, 1)}},
	}
	for i, c := range limit {
		if err := lits.Check(c); err != api.ErrLimit {
			t.Errorf("limit %d: %v", i, err)
		}
	}
	for i, x := range []struct {
		c   api.CNF
		pos int
	}{
		{api.CNF{Clauses: [][]int{{1}}}, 0},
		{api.CNF{Vars: 3, Clauses: [][]int{{0}}}, 0},
		{api.CNF{Vars: 3, Clauses: [][]int{{1}, {2, 3, 4}}}, 1},
		{api.CNF{Vars: 3, Clauses: [][]int{{1}, {-4, 2, 3}}}, 1},
		{api.CNF{Vars: 3, Clauses: [][]int{nil, {}, {1, 0}, {4}}}, 2},
		{api.CNF{Vars: 3, Clauses: [][]int{{math.MaxInt}, {0}}}, 0},
		{api.CNF{Vars: 3, Clauses: [][]int{{-3}, {lowest}}}, 1},
		{api.CNF{Vars: api.MaxVars, Clauses: append(clauses(api.MaxClauses-1, 1), []int{api.MaxVars + 1})}, api.MaxClauses - 1},
		{api.CNF{Vars: 1, Clauses: [][]int{long(api.MaxLits, 2)}}, 0},
	} {
		var at *api.At
		if err := lits.Check(x.c); !errors.As(err, &at) || at.Pos != x.pos || at.Err != api.ErrRange {
			t.Errorf("range %d: %v, want it at %d", i, err, x.pos)
		}
	}
}

func TestSame(t *testing.T) {
	for _, x := range []struct {
		a, b []int
		want bool
	}{
		{nil, nil, true}, {nil, []int{}, true},
		{[]int{1, 2, 1}, []int{2, 1}, true},
		{[]int{3, -3}, []int{-3, 3, 3}, true},
		{[]int{0}, []int{0, 0}, true},
		{[]int{math.MaxInt, lowest}, []int{lowest, math.MaxInt}, true},
		{[]int{1}, []int{-1}, false},
		{[]int{1, 2}, []int{1}, false},
		{[]int{1}, []int{1, 2}, false},
		{[]int{1, -1}, []int{2, -2}, false},
		{[]int{0}, nil, false},
		{[]int{0, 1}, []int{1}, false},
		{[]int{1}, nil, false},
	} {
		a, b := slices.Clone(x.a), slices.Clone(x.b)
		if got := lits.Same(x.a, x.b); got != x.want {
			t.Errorf("Same(%v, %v) = %t", a, b, got)
		}
		if !slices.Equal(x.a, a) || !slices.Equal(x.b, b) {
			t.Errorf("Same(%v, %v) left %v, %v of them", a, b, x.a, x.b)
		}
	}
	eachClause(1, 3, func(a []int) {
		eachClause(1, 3, func(b []int) {
			x, _ := norm(a, 1)
			y, _ := norm(b, 1)
			if got := lits.Same(a, b); got != slices.Equal(x, y) {
				t.Errorf("Same(%v, %v) = %t", a, b, got)
			}
		})
	})
}

func TestRename(t *testing.T) {
	by := []int{9, 4, -2, 0, 7}
	for _, x := range []struct {
		c, by, want []int
		is          bool
	}{
		{nil, by, nil, true},
		{nil, nil, nil, true},
		{[]int{1}, by, []int{4}, true},
		{[]int{-1}, by, []int{-4}, true},
		{[]int{2, -2}, by, []int{-2, 2}, true},
		{[]int{4, 1, 4, -1}, by, []int{7, 4, 7, -4}, true}, // neither sorted nor each once
		{[]int{1, -2}, []int{0, 3, 3}, []int{3, -3}, true},
		{[]int{1, -1}, []int{0, math.MaxInt}, []int{math.MaxInt, -math.MaxInt}, true},
		{[]int{0}, by, nil, false}, // though place 0 is there
		{[]int{1, 0}, by, nil, false},
		{[]int{3}, by, nil, false},
		{[]int{-3}, by, nil, false},
		{[]int{1, 3, 1}, by, nil, false},
		{[]int{5}, by, nil, false},
		{[]int{-5}, by, nil, false},
		{[]int{4, -5}, by, nil, false},
		{[]int{4}, by[:4], nil, false}, // what lies behind the length is none
		{[]int{math.MaxInt}, by, nil, false},
		{[]int{lowest}, by, nil, false},
		{[]int{1}, nil, nil, false},
		{[]int{0}, nil, nil, false},
		{[]int{1}, []int{1}, nil, false},
	} {
		c, old := slices.Clone(x.c), slices.Clone(x.by)
		got, is := lits.Rename(x.c, x.by)
		if !slices.Equal(got, x.want) || is != x.is {
			t.Errorf("Rename(%v, %v) = %v, %t, want %v, %t", c, old, got, is, x.want, x.is)
		}
		if !slices.Equal(x.c, c) || !slices.Equal(x.by, old) {
			t.Errorf("Rename(%v, %v) left %v, %v of them", c, old, x.c, x.by)
		}
	}
}

// TestMemory writes into whatever is handed out, its spare room too, and looks
// whether what was handed in, or handed out ahead, shows it.
func TestMemory(t *testing.T) {
	spoil := func(l []int) {
		l = l[:cap(l)]
		for i := range l {
			l[i] = 99
		}
	}
	for _, c := range [][]int{{}, {1}, {1, 2}, {2, 1}, {1, 1, 2}, {2, -2}} {
		room := append(slices.Clone(c), 77, 78, 79)
		whole := slices.Clone(room)
		in := room[:len(c)]
		by := slices.Clone(append([]int{0}, 1, 2))
		for name, call := range map[string]func() []int{
			"Norm":   func() []int { l, _ := lits.Norm(in...); return l },
			"Rename": func() []int { l, _ := lits.Rename(in, by); return l },
		} {
			first, second := call(), call()
			want := slices.Clone(first)
			spoil(second)
			if !slices.Equal(first, want) {
				t.Errorf("%s(%v): an answer shows what was written into another", name, c)
			}
			spoil(first)
			if !slices.Equal(room, whole) || !slices.Equal(by, []int{0, 1, 2}) {
				t.Errorf("%s(%v): what was handed in shows what was written: %v, %v", name, c, room, by)
			}
		}
		lits.Same(in, in)
		lits.Check(api.CNF{Vars: 1, Clauses: [][]int{in}})
		if !slices.Equal(room, whole) {
			t.Errorf("Same or Check(%v) left %v of %v", c, room, whole)
		}
	}
}

// TestNoPanic: of these literals nothing is asked, but that the calls end.
func TestNoPanic(t *testing.T) {
	for _, l := range []int{math.MinInt, math.MinInt + 1, -1 << 62} {
		t.Run(strconv.Itoa(l), func(t *testing.T) {
			lits.Var(l)
			lits.Is(l, math.MinInt)
			lits.Is(l, math.MaxInt)
			lits.Norm(l, -l, l, 0)
			lits.Same([]int{l}, []int{-l})
			lits.Check(api.CNF{Vars: api.MaxVars, Clauses: [][]int{{l}}})
			lits.Rename([]int{l}, nil)
			lits.Rename([]int{l}, []int{1, 2})
			lits.Rename([]int{-1, 1}, []int{0, l})
		})
	}
}
