package incr_test

import (
	"errors"
	"math"
	"math/rand"
	"reflect"
	"slices"
	"testing"

	"skolem/api"
	"skolem/assign"
	"skolem/incr"
	"skolem/lits"
	"skolem/sat"
	"skolem/slow"
)

// of is a Solver of vars variables and these clauses.
func of(t *testing.T, vars int, clauses [][]int, s api.Script) *incr.Solver {
	t.Helper()
	x := incr.New(s)
	if x.Fresh(vars) != 1 {
		t.Fatal(vars)
	}
	for _, c := range clauses {
		if err := x.Add(c...); err != nil {
			t.Fatal(c, err)
		}
	}
	return x
}

// holes is the clauses by which n + 1 pigeons sit in n holes, none with another,
// each with more literals behind it: without these they can't be true.
func holes(n int, more ...int) [][]int {
	var all [][]int
	at := func(pigeon, hole int) int { return pigeon*n + hole + 1 }
	for p := range n + 1 {
		var any []int
		for h := range n {
			any = append(any, at(p, h))
			for q := range p {
				all = append(all, append([]int{-at(p, h), -at(q, h)}, more...))
			}
		}
		all = append(all, append(any, more...))
	}
	return all
}

func someClauses(r *rand.Rand, vars, many int) [][]int {
	var all [][]int
	for range many {
		all = append(all, someLits(r, vars, 1+r.Intn(3)))
	}
	return all
}

func someLits(r *rand.Rand, vars, many int) []int {
	var c []int
	for range many {
		c = append(c, (1+r.Intn(vars))*(1-2*r.Intn(2)))
	}
	return c
}

func someNumbers(r *rand.Rand) []int {
	var l []int
	for range r.Intn(5) {
		l = append(l, r.Intn(9)-4)
	}
	return l
}

func someScript(r *rand.Rand) api.Script {
	return api.Script{Restart: someNumbers(r), Keep: someNumbers(r), Tie: someNumbers(r), Sign: someNumbers(r)}
}

// canBe tells by all values whether clauses can be true, and these literals.
func canBe(t *testing.T, vars int, clauses [][]int, also []int) bool {
	t.Helper()
	all := slices.Clone(clauses)
	for _, l := range also {
		all = append(all, []int{l})
	}
	_, is, err := slow.Sat(api.CNF{Vars: vars, Clauses: all})
	if err != nil {
		t.Fatal(err)
	}
	return is
}

func TestFresh(t *testing.T) {
	s := incr.New(api.Script{})
	if s.Vars() != 0 {
		t.Error(s.Vars())
	}
	for i, x := range []struct{ n, first, vars int }{
		{0, 0, 0},
		{-1, 0, 0},
		{api.MaxVars + 1, 0, 0},
		{2, 1, 2},
		{1, 3, 3},
		{0, 0, 3},
		{math.MinInt, 0, 3},
		{math.MaxInt, 0, 3},
		{math.MaxInt - 2, 0, 3},
		{api.MaxVars - 2, 0, 3},
		{api.MaxVars - 4, 4, api.MaxVars - 1},
		{2, 0, api.MaxVars - 1},
		{1, api.MaxVars, api.MaxVars},
		{1, 0, api.MaxVars},
		{0, 0, api.MaxVars},
	} {
		if first := s.Fresh(x.n); first != x.first || s.Vars() != x.vars {
			t.Error(i, first, s.Vars())
		}
		if all := s.All(); all.Vars != x.vars || len(all.Clauses) > 0 {
			t.Error(i, all)
		}
		if err := s.Add(x.vars + 1); err != api.ErrRange {
			t.Error(i, err)
		}
		if r, err := s.Solve(); err != nil || len(r.Model) != x.vars+1 {
			t.Error(i, len(r.Model), err)
		}
	}
	if first := incr.New(api.Script{}).Fresh(api.MaxVars); first != 1 {
		t.Error(first)
	}
}

// Variables may be made at any time, and are as those that were there.
func TestFreshBetween(t *testing.T) {
	s := of(t, 2, [][]int{{-1, 2}}, api.Script{})
	if r, err := s.Solve(1); err != nil || !slices.Equal(r.Model, []bool{false, true, true}) {
		t.Error(r, err)
	}
	v := s.Fresh(2)
	if v != 3 || s.Add(-2, v) != nil || s.Add(-v, v+1) != nil {
		t.Error(v)
	}
	if r, err := s.Solve(1); err != nil || !slices.Equal(r.Model, []bool{false, true, true, true, true}) {
		t.Error(r, err)
	}
	if r, err := s.Solve(1, -4); err != nil || r.Sat || !lits.Same(r.Core, []int{1, -4}) {
		t.Error(r, err)
	}
}

func TestAdd(t *testing.T) {
	s := incr.New(api.Script{})
	s.Fresh(3)
	var want [][]int
	for i, x := range []struct {
		c   []int
		err error
	}{
		{[]int{1, 2}, nil},
		{[]int{0}, api.ErrRange},
		{[]int{4}, api.ErrRange},
		{[]int{1, -4}, api.ErrRange},
		{[]int{1, 0, 2}, api.ErrRange},
		{[]int{math.MaxInt}, api.ErrRange},
		{[]int{1, -1, 9}, api.ErrRange},
		{[]int{3, -1, 3}, nil}, // as it stands
		{[]int{2, -2}, nil},    // though it says nothing
		{[]int{1, 2}, nil},     // once more
		{nil, nil},
		{[]int{-3}, nil},
	} {
		if err := s.Add(x.c...); err != x.err {
			t.Error(i, err)
		}
		if x.err == nil {
			want = append(want, slices.Clone(x.c))
		}
		same := func(a, b []int) bool { return slices.Equal(a, b) }
		if all := s.All(); all.Vars != 3 || !slices.EqualFunc(all.Clauses, want, same) {
			t.Error(i, all)
		}
	}
	if r, err := s.Solve(); err != nil || r.Sat || len(r.Core) > 0 { // the clause of nothing is there
		t.Error(r, err)
	}
}

// many is so many literals of one variable.
func many(n int) []int { return slices.Repeat([]int{1}, n) }

func TestLimitOfClauses(t *testing.T) {
	s := of(t, 2, slices.Repeat([][]int{{2, -2}}, api.MaxClauses-2), api.Script{})
	three := api.CNF{Clauses: [][]int{{-1}, {-1}, {-1}}}
	if err := s.Put(three, []int{0, 1}); err != api.ErrLimit || len(s.All().Clauses) != api.MaxClauses-2 {
		t.Error(err)
	}
	if r, err := s.Solve(1); err != nil || !r.Sat { // nothing of it is there
		t.Error(r, err)
	}
	three.Clauses = three.Clauses[1:]
	if err := s.Put(three, []int{0, 1}); err != nil || len(s.All().Clauses) != api.MaxClauses {
		t.Error(err)
	}
	for i, err := range []error{s.Add(-2), s.Add(), s.Put(three, []int{0, 2}), s.Put(api.CNF{Clauses: [][]int{nil}}, nil)} {
		if err != api.ErrLimit {
			t.Error(i, err)
		}
	}
	// ErrRange goes ahead, and none at all is not too many
	three.Clauses = append(three.Clauses, []int{2})
	for i, err := range []error{s.Add(3), s.Add(-2, 0), s.Put(three, []int{0, 2}), s.Put(three, []int{0, 2, 3})} {
		if err != api.ErrRange {
			t.Error(i, err)
		}
	}
	if err := s.Put(api.CNF{}, nil); err != nil {
		t.Error(err)
	}
	if all := s.All(); lits.Check(all) != nil || len(all.Clauses) != api.MaxClauses {
		t.Error(len(all.Clauses))
	}
	if r, err := s.Solve(2, -1); err != nil || !r.Sat {
		t.Error(r, err)
	}
	if r, err := s.Solve(1); err != nil || r.Sat {
		t.Error(r, err)
	}
}

func TestLimitOfLits(t *testing.T) {
	s := of(t, 2, [][]int{many(api.MaxLits - 10), {2, -2}}, api.Script{}) // one twice counts twice
	for i, err := range []error{
		s.Add(slices.Repeat([]int{-2}, 9)...),
		s.Put(api.CNF{Clauses: [][]int{{-1}, {1, 1, 1}, {-1}, {1, 1, 1, 1}}}, []int{0, 2}),
	} {
		if err != api.ErrLimit {
			t.Error(i, err)
		}
	}
	for i, err := range []error{s.Add(append(many(9), 3)...), s.Put(api.CNF{Clauses: [][]int{many(9), {0}}}, []int{0, 1})} {
		if err != api.ErrRange {
			t.Error(i, err)
		}
	}
	if r, err := s.Solve(2); err != nil || !r.Sat || len(s.All().Clauses) != 2 {
		t.Error(r, err)
	}
	if err := s.Put(api.CNF{Clauses: [][]int{many(3), many(4)}}, []int{0, 1}); err != nil {
		t.Error(err)
	}
	for i, x := range []struct {
		c   []int
		err error
	}{{many(2), api.ErrLimit}, {many(1), nil}, {many(1), api.ErrLimit}, {nil, nil}} {
		if err := s.Add(x.c...); err != x.err {
			t.Error(i, err)
		}
	}
	if err := lits.Check(s.All()); err != nil {
		t.Error(err)
	}
	if x := of(t, 1, [][]int{many(api.MaxLits)}, api.Script{}); x.Add(1) != api.ErrLimit {
		t.Error("beyond the last one")
	}
	x := incr.New(api.Script{})
	x.Fresh(1)
	if err := x.Add(many(api.MaxLits + 1)...); err != api.ErrLimit || len(x.All().Clauses) > 0 {
		t.Error(err)
	}
}

func TestPut(t *testing.T) {
	for i, x := range []struct {
		vars    int
		clauses [][]int
		by      []int
		want    [][]int
		err     error
	}{
		{2, [][]int{{1, -2}, {2}}, []int{0, 3, 5}, [][]int{{3, -5}, {5}}, nil},
		{2, [][]int{{1, -2}, {2}}, []int{0, -3, 5}, [][]int{{-3, -5}, {5}}, nil}, // as a literal
		{2, [][]int{{-1, -2, 1}, nil, {-1}}, []int{77, -3, -3, 88}, [][]int{{3, 3, -3}, nil, {3}}, nil},
		{0, [][]int{{1}}, []int{0, 1}, [][]int{{1}}, nil}, // the places of by tell what can be there
		{-1, [][]int{{3}}, []int{0, 0, 9, 5}, [][]int{{5}}, nil},
		{9, nil, nil, nil, nil},
		{9, nil, []int{0, 99}, nil, nil},
		{9, [][]int{nil}, nil, [][]int{nil}, nil},
		{2, [][]int{{1}, {2}}, []int{0, 1}, nil, api.ErrRange},     // no place
		{2, [][]int{{1}, {-2}}, []int{0, 1, 0}, nil, api.ErrRange}, // a 0 there
		{2, [][]int{{1}, {0}}, []int{1, 1, 2}, nil, api.ErrRange},
		{2, [][]int{{1}, {2}}, []int{0, 1, 6}, nil, api.ErrRange}, // no such variable here
		{2, [][]int{{1}, {2}}, []int{0, 1, -6}, nil, api.ErrRange},
		{2, [][]int{{1}, {2}}, []int{0, 1, math.MaxInt}, nil, api.ErrRange},
		{2, [][]int{{2, 1}, {-3}}, []int{0, 1, 2}, nil, api.ErrRange},
		{2, [][]int{{1}, {-2}}, nil, nil, api.ErrRange},
		{2, [][]int{{math.MaxInt}}, []int{0, 1, 2}, nil, api.ErrRange},
	} {
		s := of(t, 5, [][]int{{4}}, api.Script{})
		if err := s.Put(api.CNF{Vars: x.vars, Clauses: x.clauses}, x.by); err != x.err {
			t.Error(i, err)
		}
		all := s.All()
		if len(all.Clauses) != 1+len(x.want) || !slices.Equal(all.Clauses[0], []int{4}) {
			t.Fatal(i, all)
		}
		for k, c := range x.want {
			if !slices.Equal(all.Clauses[1+k], c) {
				t.Error(i, all)
			}
		}
		r, err := s.Solve()
		if want := canBe(t, 5, all.Clauses, nil); err != nil || r.Sat != want {
			t.Error(i, r, err)
		}
	}
}

// Solve and Log are sat's, of all that is there.
func TestAsSat(t *testing.T) {
	r := rand.New(rand.NewSource(19))
	for range 300 {
		by := someScript(r)
		by.Conflicts = r.Intn(2) * r.Intn(8)
		s, e, vars := incr.New(by), sat.New(0, by), 0
		var all [][]int
		for range 6 {
			n := 1 + r.Intn(3)
			s.Fresh(n)
			vars += n
			e.Grow(vars)
			for _, c := range someClauses(r, vars, 3*n) {
				s.Add(c...)
				e.Add(c...)
				all = append(all, c)
			}
			put, to := someClauses(r, 2, n), someLits(r, vars, 2)
			if err := s.Put(api.CNF{Vars: 2, Clauses: put}, append([]int{0}, to...)); err != nil {
				t.Fatal(err)
			}
			for _, c := range put {
				c, _ = lits.Rename(c, append([]int{0}, to...))
				e.Add(c...)
				all = append(all, c)
			}
			assume := someLits(r, vars, r.Intn(4))
			if r.Intn(5) == 0 {
				assume = append(assume, vars+1)
			}
			x, err := s.Solve(assume...)
			y, wants := e.Solve(assume...)
			if err != wants || !reflect.DeepEqual(x, y) || !reflect.DeepEqual(s.Log(), e.Log()) {
				t.Fatal(x, err, y, wants)
			}
			if got := s.All(); got.Vars != vars || !reflect.DeepEqual(got.Clauses, all) {
				t.Fatal(got, all)
			}
		}
	}
}

func TestSolve(t *testing.T) {
	s := of(t, 3, [][]int{{-1, 2}, {-2, 3}}, api.Script{})
	if r, err := s.Solve(1); err != nil || !slices.Equal(r.Model, []bool{false, true, true, true}) || len(r.Core) > 0 {
		t.Error(r, err)
	}
	if r, err := s.Solve(1, -3); err != nil || r.Sat || !lits.Same(r.Core, []int{1, -3}) || len(r.Model) > 0 {
		t.Error(r, err)
	}
	for _, assume := range [][]int{{0}, {4}, {1, -4}, {1, -3, 0}} {
		if r, err := s.Solve(assume...); err != api.ErrRange || !reflect.DeepEqual(r, api.Result{}) {
			t.Error(assume, r, err)
		}
	}
	if log := s.Log(); len(log) == 0 || !lits.Same(log[len(log)-1].Lits, []int{-1, 3}) {
		t.Error(log)
	}
	if r, err := s.Solve(); err != nil || !r.Sat {
		t.Error(r, err)
	}
}

func TestCore(t *testing.T) {
	four := [][]int{{1, 2}, {1, -2}, {-1, 2}, {-1, -2}}
	for i, x := range []struct {
		clauses [][]int
		assume  []int
		core    []int
		err     error
	}{
		{[][]int{{-1, 2}, {-2, 3}}, []int{4, 1, -3}, []int{1, -3}, nil},
		{[][]int{{-1, 2}, {-2, 3}}, []int{-3, 4, 1}, []int{-3, 1}, nil}, // in their order
		{[][]int{{-1, 2}, {-2, 3}}, []int{-3, 2, 1}, []int{-3, 2}, nil}, // 2 and 1 are as good
		{[][]int{{-1, 2}, {-2, 3}}, []int{1, 2, -3}, []int{1, -3}, nil},
		{[][]int{{-1, 2}, {-2, 3}}, []int{1, -3, 1, -3, 1}, []int{1, -3}, nil}, // each once
		{[][]int{{-1, -2, -3, -4}}, []int{4, 2, 2, 3, 1, 5}, []int{4, 2, 3, 1}, nil},
		{nil, []int{1, -1}, []int{1, -1}, nil},
		{nil, []int{-1, 2, 1}, []int{-1, 1}, nil},
		{nil, []int{3, -2, 1, 2, -3, -1}, []int{-2, 2}, nil},
		{[][]int{{1}}, []int{1, -1}, []int{-1}, nil}, // one of the opposites alone can't be
		{[][]int{{1}}, []int{-1, 1}, []int{-1}, nil},
		{[][]int{{1}}, []int{2, -1, -2}, []int{-1}, nil},
		{[][]int{{-1, -2}}, []int{3, 1, -3, 2}, []int{3, -3}, nil},
		{[][]int{{-1, -2}}, []int{1, 2, 3, -3}, []int{1, 2}, nil},
		{[][]int{{-1}, {-2, -3}}, []int{3, 2, 1}, []int{3, 2}, nil},
		{[][]int{{1}, {-1}}, []int{2}, nil, nil}, // the clauses alone can't
		{[][]int{{1}, {-1}}, []int{2, -2}, nil, nil},
		{[][]int{{}}, []int{1, 2, 3}, nil, nil},
		{[][]int{{}}, nil, nil, nil},
		{four, []int{1, 3, -3}, nil, nil},
		{four, nil, nil, nil},
		{nil, nil, nil, api.ErrRange}, // they can be
		{nil, []int{1, 2, -3, 1}, nil, api.ErrRange},
		{[][]int{{-1, 2}, {-2, 3}}, []int{1, 3}, nil, api.ErrRange},
		{four[:3], []int{1, 2}, nil, api.ErrRange},
		{[][]int{{1}}, []int{-1, 6}, nil, api.ErrRange}, // no literal
		{[][]int{{1}}, []int{-1, 0}, nil, api.ErrRange},
		{[][]int{{}}, []int{-6}, nil, api.ErrRange},
		{[][]int{{}}, []int{1, math.MaxInt}, nil, api.ErrRange},
	} {
		s := of(t, 5, x.clauses, api.Script{})
		for again := range 2 {
			core, err := s.Core(x.assume...)
			if err != x.err || !slices.Equal(core, x.core) || err != nil && core != nil {
				t.Error(i, again, core, err)
			}
		}
		if all := s.All(); all.Vars != 5 || !reflect.DeepEqual(all.Clauses, x.clauses) && len(x.clauses) > 0 {
			t.Error(i, all)
		}
	}
}

// plain is what Core answers, by all values.
func plain(t *testing.T, vars int, clauses [][]int, assume []int) []int {
	t.Helper()
	left := slices.Clone(assume)
	for i := len(left) - 1; i >= 0; i-- {
		if others := slices.Delete(slices.Clone(left), i, i+1); !canBe(t, vars, clauses, others) {
			left = others
		}
	}
	return left
}

// minimal tells that core is some of assume, in their order, that can't be, and
// can be whichever of it is left out.
func minimal(t *testing.T, vars int, clauses [][]int, assume, core []int) {
	t.Helper()
	if canBe(t, vars, clauses, core) {
		t.Fatal(clauses, assume, core)
	}
	rest := assume
	for i, l := range core {
		at := slices.Index(rest, l)
		if at < 0 {
			t.Fatal(clauses, assume, core)
		}
		rest = rest[at+1:]
		if !canBe(t, vars, clauses, slices.Delete(slices.Clone(core), i, i+1)) {
			t.Fatal(clauses, assume, core, l)
		}
	}
}

func TestCoreAgainstAllValues(t *testing.T) {
	r := rand.New(rand.NewSource(191))
	met := make([]int, 5)
	for range 1500 {
		vars := 2 + r.Intn(7)
		s := of(t, vars, nil, someScript(r))
		var all [][]int
		for range 1 + r.Intn(4) {
			for _, c := range somewhatLong(r, vars, r.Intn(2*vars)) {
				if err := s.Add(c...); err != nil {
					t.Fatal(err)
				}
				all = append(all, c)
			}
			assume := someAssumed(r, vars)
			given := slices.Clone(assume)
			core, err := s.Core(assume...)
			if !slices.Equal(assume, given) {
				t.Fatal(assume, given)
			}
			if canBe(t, vars, all, assume) {
				if err != api.ErrRange || core != nil {
					t.Fatal(core, err)
				}
				continue
			}
			if err != nil || !slices.Equal(core, plain(t, vars, all, assume)) {
				t.Fatal(all, assume, core, err)
			}
			minimal(t, vars, all, assume, core)
			met[min(len(core), 4)]++
			follows(t, vars, all, s.Log())
		}
	}
	for i, n := range met {
		if n < 10 {
			t.Error(i, met)
		}
	}
}

// somewhatLong are clauses of up to six literals, few of one alone.
func somewhatLong(r *rand.Rand, vars, many int) [][]int {
	var all [][]int
	for len(all) < many {
		if c := someLits(r, vars, 1+r.Intn(6)); len(c) > 1 || r.Intn(9) == 0 {
			all = append(all, c)
		}
	}
	return all
}

// someAssumed are literals, few of them opposites or twice there.
func someAssumed(r *rand.Rand, vars int) []int {
	l := someLits(r, vars, r.Intn(3)*r.Intn(2))
	for _, v := range r.Perm(vars) {
		if r.Intn(5) > 0 {
			l = append(l, (v+1)*(1-2*r.Intn(2)))
		}
	}
	return l
}

// follows tells that each step of a log follows of clauses and the steps ahead of
// it, by what has one literal left alone.
func follows(t *testing.T, vars int, clauses [][]int, log []api.Step) {
	t.Helper()
	there := slices.Clone(clauses)
	for i, s := range log {
		if s.Delete {
			at := slices.IndexFunc(there[len(clauses):], func(c []int) bool { return lits.Same(c, s.Lits) })
			if at < 0 {
				t.Fatal(i, s)
			}
			there = slices.Delete(there, len(clauses)+at, len(clauses)+at+1)
			continue
		}
		if !conflicts(vars, there, s.Lits) {
			t.Fatal(i, s)
		}
		there = append(there, s.Lits)
	}
}

// conflicts tells whether c's literals, all false, come to a conflict.
func conflicts(vars int, clauses [][]int, c []int) bool {
	a := assign.New(vars)
	for _, l := range c {
		if !a.Set(-l) {
			return true
		}
	}
	for more := true; more; {
		more = false
		for _, d := range clauses {
			value, one := a.Clause(d)
			if value == api.False {
				return true
			}
			more = one != 0 && a.Set(one) || more
		}
	}
	return false
}

// What Core answers hangs on nothing that is free to the solver, not on what was
// asked ahead.
func TestCoreIsOne(t *testing.T) {
	r := rand.New(rand.NewSource(192))
	met := 0
	for range 200 {
		clauses := somewhatLong(r, 12, 30)
		x, y := of(t, 12, clauses, api.Script{}), of(t, 12, clauses, someScript(r))
		for range 5 {
			y.Solve(someLits(r, 12, r.Intn(6))...)
			assume := someAssumed(r, 12)
			a, errA := x.Core(assume...)
			b, errB := y.Core(assume...)
			if errA != errB || !slices.Equal(a, b) {
				t.Fatal(clauses, assume, a, b)
			}
			if len(a) > 1 {
				met++
			}
		}
	}
	if met < 100 {
		t.Error(met)
	}
}

// Each step of the log follows, those of Core among them, also where some were
// dropped; and the clause of Core's opposites is there.
func TestLogOfCore(t *testing.T) {
	const gate = 31
	for i, by := range []api.Script{{}, {Keep: []int{1}}, {Restart: []int{1}, Keep: []int{1, 0, 1}, Sign: []int{3, 1}, Tie: []int{4, 0}}} {
		clauses := append(holes(5, -gate, -gate-1), []int{-gate - 2, gate + 1})
		s := of(t, 35, clauses, by)
		for range 2 {
			core, err := s.Core(gate+4, gate+2, 1, gate, gate+1, -30)
			if want := []int{gate + 2, gate}; err != nil || !slices.Equal(core, want) {
				t.Error(i, core, err)
			}
		}
		log := s.Log()
		follows(t, 35, clauses, log)
		if !slices.ContainsFunc(log, func(x api.Step) bool { return !x.Delete && lits.Same(x.Lits, []int{-gate - 2, -gate}) }) {
			t.Error(i, len(log))
		}
	}
}

// What is known already is not asked again: of those that the solver's Core does
// without, of one that stands there twice.
func TestCoreAsksLittle(t *testing.T) {
	s := of(t, 9, [][]int{{-1, -2}}, api.Script{})
	s.Solve() // from then on it is known that the clauses alone can be true
	for i, assume := range [][]int{{1, 2}, {3, 1, 4, 2, 5, -6, 7, 8, -9}, {1, 1, 2, 2, 1, 2}} {
		if core, err := s.Core(assume...); err != nil || !slices.Equal(core, []int{1, 2}) {
			t.Error(i, core, err)
		}
		if many := len(s.Log()); many != i+1 { // each Solve that says no logs one here
			t.Error(i, many)
		}
	}
}

func TestBudget(t *testing.T) {
	const gate = 21
	clauses := append(holes(4, -gate), []int{-22, -23})
	s := of(t, 24, clauses, api.Script{Conflicts: 4, Sign: []int{2}})
	for range 2 {
		core, err := s.Core(gate, 22)
		if err != api.ErrBudget || core != nil {
			t.Error(core, err)
		}
		if r, err := s.Solve(gate); err != api.ErrBudget || !reflect.DeepEqual(r, api.Result{}) {
			t.Error(r, err)
		}
	}
	// what is known at once is told
	for i, x := range []struct{ assume, core []int }{
		{[]int{-gate, 22, -22}, []int{22, -22}},
		{[]int{24, 23, 1, 22, -24}, []int{23, 22}},
		{[]int{24, 23, 1, -24, 22}, []int{24, -24}},
	} {
		if core, err := s.Core(x.assume...); err != nil || !slices.Equal(core, x.core) {
			t.Error(i, core, err)
		}
	}
	if core, err := s.Core(22, -1); err != api.ErrRange || core != nil {
		t.Error(core, err)
	}
	if core, err := s.Core(25); err != api.ErrRange || core != nil {
		t.Error(core, err)
	}
	// that they can't be is known at once, but not that the others can
	if core, err := s.Core(3, -gate, gate); err != api.ErrBudget || core != nil {
		t.Error(core, err)
	}
	follows(t, 24, clauses, s.Log())
	if all := s.All(); all.Vars != 24 || !reflect.DeepEqual(all.Clauses, clauses) {
		t.Error(all)
	}
}

// The budget may be used up where it is known already that they can't be: while
// it is looked at which of them can be left out, or whether the clauses alone can.
func TestBudgetOnTheWay(t *testing.T) {
	const gate = 13
	clauses := append(holes(3, -gate), []int{-14, -15})
	of13 := func(most int) *incr.Solver { return of(t, 15, clauses, api.Script{Conflicts: most}) }
	if core, err := of13(0).Core(gate, 14, 15); err != nil || !slices.Equal(core, []int{gate}) {
		t.Error(core, err)
	}
	told := 0
	for most := 1; most < 60; most++ {
		s := of13(most)
		core, err := s.Core(14, 15, gate)
		if err != nil || !slices.Equal(core, []int{14, 15}) { // the first of them are looked at last
			t.Error(most, core, err)
		}
		switch core, err = s.Core(gate, 14, 15); {
		case err == api.ErrBudget && core == nil:
			told++
		case err != nil || !slices.Equal(core, []int{gate}):
			t.Error(most, core, err)
		}
	}
	if told == 0 || told == 59 {
		t.Error(told)
	}
	s := of(t, 12, holes(3), api.Script{Conflicts: 1})
	for range 2 {
		if core, err := s.Core(1, -1); !errors.Is(err, api.ErrBudget) || core != nil {
			t.Error(core, err)
		}
	}
}

// What is handed in is neither kept nor changed, what is handed out is new.
func TestMemory(t *testing.T) {
	by := api.Script{Sign: []int{1}, Restart: []int{1}, Keep: []int{1}, Tie: []int{1}}
	s := incr.New(by)
	by.Sign[0], by.Restart[0], by.Keep[0], by.Tie[0] = 2, 0, 0, 0
	s.Fresh(4)
	room := []int{-1, 2, 77}
	s.Add(room[:2]...)
	put, to := [][]int{[]int{-1, 2, 77}[:2], {1, -1}}, []int{9, 2, 3, 55}
	s.Put(api.CNF{Vars: 2, Clauses: put}, to[:3])
	if !reflect.DeepEqual(put, [][]int{{-1, 2}, {1, -1}}) || put[0][:3][2] != 77 || !slices.Equal(to, []int{9, 2, 3, 55}) || room[2] != 77 {
		t.Error(put, to, room)
	}
	spoil(room)
	spoil(put[0])
	spoil(to)
	put[1] = nil
	want := api.CNF{Vars: 4, Clauses: [][]int{{-1, 2}, {-2, 3}, {2, -2}}}
	for range 2 {
		all := s.All()
		if !reflect.DeepEqual(all, want) {
			t.Error(all)
		}
		for _, c := range all.Clauses {
			spoil(c)
		}
		_ = append(all.Clauses[:1], nil, nil)
	}
	if r, err := s.Solve(); err != nil || !slices.Equal(r.Model, []bool{false, true, true, true, true}) { // Sign is what it was
		t.Error(r, err)
	}
	assume := []int{4, -3, 1, 1, 66}
	for range 2 {
		core, err := s.Core(assume[:4]...)
		if err != nil || !slices.Equal(core, []int{-3, 1}) || !slices.Equal(assume, []int{4, -3, 1, 1, 66}) {
			t.Error(core, err, assume)
		}
		spoil(core)
		log := s.Log()
		before := s.Log()
		for i := range log {
			spoil(log[i].Lits)
			log[i].Delete = true
		}
		if !reflect.DeepEqual(s.Log(), before) {
			t.Error(s.Log())
		}
	}
	// nil and nothing are the same
	if err := s.Put(api.CNF{Clauses: [][]int{}}, []int{}); err != nil || len(s.All().Clauses) != 3 {
		t.Error(err)
	}
	if core, err := s.Core([]int{}...); err != api.ErrRange || core != nil {
		t.Error(core, err)
	}
	if r, err := s.Solve([]int{}...); err != nil || !r.Sat {
		t.Error(r, err)
	}
}

// spoil writes into all of l's memory.
func spoil(l []int) {
	for i := range l[:cap(l)] {
		l[:cap(l)][i] = 99
	}
}

// A Solver's own clauses may be put into it again.
func TestPutOfAll(t *testing.T) {
	s := of(t, 2, [][]int{{-1, 2}, {1}}, api.Script{})
	v := s.Fresh(2)
	if err := s.Put(s.All(), []int{0, v, v + 1}); err != nil {
		t.Error(err)
	}
	want := api.CNF{Vars: 4, Clauses: [][]int{{-1, 2}, {1}, {-3, 4}, {3}}}
	if all := s.All(); !reflect.DeepEqual(all, want) {
		t.Error(all)
	}
	if core, err := s.Core(1, -4, -2); err != nil || !slices.Equal(core, []int{-4}) {
		t.Error(core, err)
	}
}

// Many assumptions, all of them needed, or few.
func TestLong(t *testing.T) {
	const n = 600
	s := incr.New(api.Script{})
	s.Fresh(n)
	var all, none []int
	for v := 1; v <= n; v++ {
		all, none = append(all, v), append(none, -v)
	}
	s.Add(none...)
	if core, err := s.Core(all...); err != nil || !slices.Equal(core, all) {
		t.Error(len(core), err)
	}
	s.Add(-7, -n)
	slices.Reverse(all)
	if core, err := s.Core(all...); err != nil || !slices.Equal(core, []int{n, 7}) {
		t.Error(core, err)
	}
}
