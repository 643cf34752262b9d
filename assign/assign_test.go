package assign_test

import (
	"math"
	"slices"
	"testing"

	"skolem/api"
	"skolem/assign"
)

const lowest = -1<<62 + 1 // the least literal of which something is asked

// made is an Assign of so many variables in which these are true.
func made(t *testing.T, vars int, known ...int) *assign.Assign {
	t.Helper()
	a := assign.New(vars)
	for _, l := range known {
		if !a.Set(l) {
			t.Fatalf("Set(%d) of %d variables, in %v", l, vars, known)
		}
	}
	return a
}

func TestNew(t *testing.T) {
	for _, x := range []struct{ vars, want int }{
		{0, 0}, {1, 1}, {3, 3}, {api.MaxVars - 1, api.MaxVars - 1}, {api.MaxVars, api.MaxVars},
		{-1, 0}, {math.MinInt, 0}, {api.MaxVars + 1, api.MaxVars}, {math.MaxInt, api.MaxVars},
	} {
		a := assign.New(x.vars)
		if known := a.Known(); len(known) != 0 {
			t.Errorf("New(%d) knows %v", x.vars, known)
		}
		if m := a.Model(); !slices.Equal(m, make([]bool, x.want+1)) {
			t.Errorf("New(%d) has a model of %d places", x.vars, len(m))
		}
		for l := -x.want; l <= x.want; l++ {
			if a.Value(l) != api.Unknown {
				t.Errorf("New(%d): %d is %d", x.vars, l, a.Value(l))
			}
		}
		if x.want > 0 && (!a.Set(x.want) || a.Set(-1) != (x.want > 1)) {
			t.Errorf("New(%d): its variables can't be set", x.vars)
		}
		if a.Set(x.want+1) || a.Set(-x.want-1) {
			t.Errorf("New(%d): more than its variables can be set", x.vars)
		}
	}
}

func TestSet(t *testing.T) {
	a := assign.New(3)
	for i, x := range []struct {
		l     int
		want  bool
		known []int
	}{
		{2, true, []int{2}},
		{2, true, []int{2}}, // true already
		{-2, false, []int{2}},
		{-3, true, []int{2, -3}},
		{-3, true, []int{2, -3}},
		{3, false, []int{2, -3}},
		{0, false, []int{2, -3}},
		{4, false, []int{2, -3}},
		{-4, false, []int{2, -3}},
		{math.MaxInt, false, []int{2, -3}},
		{lowest, false, []int{2, -3}},
		{-1, true, []int{-1, 2, -3}},
		{1, false, []int{-1, 2, -3}},
	} {
		if got, known := a.Set(x.l), a.Known(); got != x.want || !slices.Equal(known, x.known) {
			t.Errorf("%d: Set(%d) = %t, and then %v is known", i, x.l, got, known)
		}
	}
}

func TestUnset(t *testing.T) {
	a := made(t, 3, 1, -2, 3)
	for i, x := range []struct {
		v     int
		known []int
	}{
		{0, []int{1, -2, 3}},
		{4, []int{1, -2, 3}},
		{-1, []int{1, -2, 3}}, // no variable
		{-2, []int{1, -2, 3}},
		{math.MaxInt, []int{1, -2, 3}},
		{math.MinInt, []int{1, -2, 3}},
		{2, []int{1, 3}},
		{2, []int{1, 3}}, // not known already
		{1, []int{3}},
		{3, nil},
		{3, nil},
	} {
		if a.Unset(x.v); !slices.Equal(a.Known(), x.known) {
			t.Errorf("%d: after Unset(%d) %v is known", i, x.v, a.Known())
		}
	}
	if !a.Set(2) || !a.Set(-1) || !slices.Equal(a.Known(), []int{-1, 2}) {
		t.Errorf("the opposites can't be set: %v", a.Known())
	}
}

func TestValue(t *testing.T) {
	a := made(t, 4, 1, -2, 4)
	for l, want := range map[int]int{
		1: api.True, -1: api.False, 2: api.False, -2: api.True, 3: api.Unknown, -3: api.Unknown, 4: api.True, -4: api.False,
		0: api.Unknown, 5: api.Unknown, -5: api.Unknown, math.MaxInt: api.Unknown, lowest: api.Unknown,
	} {
		if got := a.Value(l); got != want {
			t.Errorf("Value(%d) = %d, want %d", l, got, want)
		}
	}
	if a.Unset(2); a.Value(2) != api.Unknown || a.Value(-2) != api.Unknown || a.Value(1) != api.True {
		t.Error("Unset(2) did not make 2 unknown, or made more so")
	}
}

func TestClause(t *testing.T) {
	a := made(t, 6, 1, -2) // 3 and above are not known
	for _, x := range []struct {
		c          []int
		value, one int
	}{
		{nil, api.False, 0},
		{[]int{}, api.False, 0},
		{[]int{1}, api.True, 0}, // the one that is not false, but not Unknown
		{[]int{-2}, api.True, 0},
		{[]int{-1, 1}, api.True, 0},
		{[]int{3, 1}, api.True, 0},
		{[]int{1, 3}, api.True, 0},
		{[]int{3, -1, -2}, api.True, 0},
		{[]int{-1}, api.False, 0},
		{[]int{2, -1, 2}, api.False, 0},
		{[]int{3}, api.Unknown, 3},
		{[]int{-3}, api.Unknown, -3},
		{[]int{-1, 3}, api.Unknown, 3},
		{[]int{-4, 2}, api.Unknown, -4},
		{[]int{2, -4, -1}, api.Unknown, -4},
		{[]int{3, 3}, api.Unknown, 3},
		{[]int{-3, 2, -3, -1, -3}, api.Unknown, -3},
		{[]int{3, -3}, api.Unknown, 0},
		{[]int{3, 4}, api.Unknown, 0},
		{[]int{3, 4, 3}, api.Unknown, 0},
		{[]int{3, 4, 4}, api.Unknown, 0},
		{[]int{3, 3, 4}, api.Unknown, 0},
		{[]int{3, -1, 4, 5}, api.Unknown, 0},
		{[]int{3, 4, 3, 4, 3, 4, 1}, api.True, 0},
		// what is not right is Unknown
		{[]int{7}, api.Unknown, 7},
		{[]int{-7, -1}, api.Unknown, -7},
		{[]int{-1, 7, 2, 7}, api.Unknown, 7},
		{[]int{7, 3}, api.Unknown, 0},
		{[]int{7, 8}, api.Unknown, 0},
		{[]int{7, 1}, api.True, 0},
		{[]int{0}, api.Unknown, 0},
		{[]int{-1, 0, 0}, api.Unknown, 0},
		{[]int{0, 3}, api.Unknown, 0},
		{[]int{3, 0}, api.Unknown, 0},
		{[]int{0, 1}, api.True, 0},
		{[]int{math.MaxInt}, api.Unknown, math.MaxInt},
		{[]int{-1, lowest, lowest}, api.Unknown, lowest},
	} {
		old := slices.Clone(x.c)
		if value, one := a.Clause(x.c); value != x.value || one != x.one {
			t.Errorf("Clause(%v) = %d, %d, want %d, %d", old, value, one, x.value, x.one)
		}
		if !slices.Equal(x.c, old) {
			t.Errorf("Clause(%v) left %v of it", old, x.c)
		}
	}
	if !slices.Equal(a.Known(), []int{1, -2}) {
		t.Error("Clause set something:", a.Known())
	}
}

func TestAll(t *testing.T) {
	a := made(t, 4, 1, -2)
	for _, x := range []struct {
		c    [][]int
		want int
	}{
		{nil, api.True},
		{[][]int{}, api.True},
		{[][]int{nil}, api.False},
		{[][]int{{1}}, api.True},
		{[][]int{{1}, {3, -2}, {1, -1}}, api.True},
		{[][]int{{1}, {2}}, api.False},
		{[][]int{{2}, {1}}, api.False},
		{[][]int{{3}}, api.Unknown},
		{[][]int{{3, 4}, {1}}, api.Unknown},
		{[][]int{{1}, {3}}, api.Unknown},
		{[][]int{{3}, {-1, 2}}, api.False}, // whichever comes first
		{[][]int{{-1, 2}, {3}}, api.False},
		{[][]int{{3}, {1}, {}}, api.False},
		{[][]int{{3}, {-3}}, api.Unknown}, // though they can't both be true
		{[][]int{{0}}, api.Unknown},
		{[][]int{{1}, {5, 2}, {1}}, api.Unknown},
	} {
		if got := a.All(x.c); got != x.want {
			t.Errorf("All(%v) = %d, want %d", x.c, got, x.want)
		}
	}
}

func TestKnownAndModel(t *testing.T) {
	for _, x := range []struct {
		vars       int
		set, known []int
		model      []bool
	}{
		{0, nil, nil, []bool{false}},
		{1, []int{1}, []int{1}, []bool{false, true}},
		{1, []int{-1}, []int{-1}, []bool{false, false}},
		{3, []int{3, 1}, []int{1, 3}, []bool{false, true, false, true}},
		{4, []int{4, -3, -1}, []int{-1, -3, 4}, []bool{false, false, false, false, true}},
		{12, []int{-10, 9, 2, -1}, []int{-1, 2, 9, -10}, []bool{2: true, 9: true, 12: false}},
	} {
		a := made(t, x.vars, x.set...)
		if got := a.Known(); !slices.Equal(got, x.known) {
			t.Errorf("of %v %v is known", x.set, got)
		}
		if got := a.Model(); !slices.Equal(got, x.model) {
			t.Errorf("of %v the model is %v", x.set, got)
		}
	}
	a := made(t, api.MaxVars, api.MaxVars, -1)
	if m := a.Model(); !slices.Equal(a.Known(), []int{-1, api.MaxVars}) || len(m) != api.MaxVars+1 || !m[api.MaxVars] || m[1] {
		t.Error("of the last variable that may be")
	}
}

func TestOf(t *testing.T) {
	model := []bool{true, true, false, true} // of place 0 nothing is asked
	for _, x := range []struct {
		c     [][]int
		model []bool
		want  bool
	}{
		{nil, nil, true},
		{nil, model, true},
		{[][]int{}, model, true},
		{[][]int{nil}, model, false},
		{[][]int{{1}, {}}, model, false},
		{[][]int{{1}}, model, true},
		{[][]int{{-1}}, model, false},
		{[][]int{{2}}, model, false},
		{[][]int{{-2}}, model, true},
		{[][]int{{-1, 2, 3}}, model, true},
		{[][]int{{1}, {-2}, {3, 3}}, model, true},
		{[][]int{{1}, {2, -3}, {3}}, model, false},
		{[][]int{{-1}, {1}}, model, false},
		{[][]int{{1}, {-1}}, model, false},
		{[][]int{{0}}, model, false},
		{[][]int{{0}}, []bool{false}, false},
		{[][]int{{0, 1}}, model, true},
		{[][]int{{4}}, model, false},
		{[][]int{{-4}}, model, false}, // of which no place says that it is false
		{[][]int{{-4, 4}}, model, false},
		{[][]int{{-4, -2}}, model, true},
		{[][]int{{3}}, model[:3], false}, // what lies behind the length is none
		{[][]int{{-2}}, model[:2], false},
		{[][]int{{-1}}, nil, false},
		{[][]int{{1}}, nil, false},
		{[][]int{{0}}, nil, false},
		{[][]int{{math.MaxInt, lowest, -lowest}}, model, false},
	} {
		if got := assign.Of(x.c, x.model); got != x.want {
			t.Errorf("Of(%v, %v) = %t", x.c, x.model, got)
		}
	}
}

// worth is what c is worth by what the chapter says of it, read from the known
// literals alone.
func worth(known, c []int) (int, int) {
	var open []int // those that are not false, each once
	isTrue := false
	for _, l := range c {
		if slices.Contains(known, l) {
			isTrue = true
		}
		if !slices.Contains(known, -l) && !slices.Contains(open, l) {
			open = append(open, l)
		}
	}
	switch {
	case isTrue:
		return api.True, 0
	case len(open) == 0:
		return api.False, 0
	case len(open) == 1:
		return api.Unknown, open[0]
	}
	return api.Unknown, 0
}

// TestAllOfThem goes through all values of three variables, known or not, and
// all clauses of up to three literals, one that is not right among them.
func TestAllOfThem(t *testing.T) {
	for n := range 27 {
		var known []int
		for v, rest := 1, n; v <= 3; v, rest = v+1, rest/3 {
			if sign := rest%3 - 1; sign != 0 {
				known = append(known, sign*v)
			}
		}
		a := made(t, 3, known...)
		if !slices.Equal(a.Known(), known) {
			t.Fatalf("of %v %v is known", known, a.Known())
		}
		model := a.Model()
		eachClause(4, 3, func(c []int) {
			value, one := worth(known, c)
			if v, o := a.Clause(c); v != value || o != one {
				t.Errorf("%v: Clause(%v) = %d, %d, want %d, %d", known, c, v, o, value, one)
			}
			if got := a.All([][]int{c}); got != value {
				t.Errorf("%v: All of %v is %d, want %d", known, c, got, value)
			}
			if len(known) == 3 && value != api.Unknown && assign.Of([][]int{c}, model) != (value == api.True) {
				t.Errorf("%v: Of(%v) is not what Clause is, %d", model, c, value)
			}
		})
	}
}

// eachClause goes through all lists of up to long literals of -vars to vars, 0 too.
func eachClause(vars, long int, do func(c []int)) {
	var grow func(c []int)
	grow = func(c []int) {
		do(c)
		if len(c) == long {
			return
		}
		for l := -vars; l <= vars; l++ {
			grow(append(slices.Clone(c), l))
		}
	}
	grow(nil)
}

// TestMemory writes into whatever is handed out, its spare room too, and looks
// whether the Assign, or what was handed out ahead, shows it.
func TestMemory(t *testing.T) {
	a := made(t, 3, 1, -2)
	known, model := a.Known(), a.Model()
	for _, l := range [][]int{a.Known(), known} {
		l = l[:cap(l)]
		for i := range l {
			l[i] = 99
		}
	}
	for _, m := range [][]bool{a.Model(), model} {
		m = m[:cap(m)]
		for i := range m {
			m[i] = !m[i]
		}
	}
	if !slices.Equal(a.Known(), []int{1, -2}) || !slices.Equal(a.Model(), []bool{false, true, false, false}) {
		t.Error("the Assign shows what was written:", a.Known(), a.Model())
	}
	b := made(t, 3, -1)
	if !slices.Equal(a.Known(), []int{1, -2}) || !slices.Equal(b.Known(), []int{-1}) {
		t.Error("two that were made share what is known:", a.Known(), b.Known())
	}

	room := []int{3, 0, 1, 99}
	c := [][]int{room[:1], {-2}, {3}}
	if a.Clause(room[:1]); a.All(c[:2]) != api.Unknown || assign.Of(c[:2], []bool{false, true, false, true}[:3]) {
		t.Error("what lies behind a length counts")
	}
	if !slices.Equal(room, []int{3, 0, 1, 99}) || len(c[0]) != 1 || !slices.Equal(c[1], []int{-2}) || !slices.Equal(c[2], []int{3}) {
		t.Error("what was handed in is changed:", room, c)
	}
}

// TestNoPanic: of these literals nothing is asked, but that the calls end.
func TestNoPanic(t *testing.T) {
	a := made(t, 3, 1)
	for _, l := range []int{math.MinInt, math.MinInt + 1, -1 << 62} {
		a.Set(l)
		a.Unset(l)
		a.Value(l)
		a.Clause([]int{l, -l})
		a.All([][]int{{l}})
		assign.Of([][]int{{l}}, []bool{false, true})
		assign.Of([][]int{{l}}, nil)
	}
	if !slices.Equal(a.Known(), []int{1}) {
		t.Error("something else is known:", a.Known())
	}
}
