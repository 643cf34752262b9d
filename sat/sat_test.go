package sat_test

import (
	"errors"
	"math"
	"math/rand"
	"reflect"
	"slices"
	"testing"

	"skolem/api"
	"skolem/lits"
	"skolem/sat"
	"skolem/slow"
)

// holes is the clauses by which n + 1 pigeons sit in n holes, none with another:
// they can't be true.
func holes(n int) api.CNF {
	c := api.CNF{Vars: n * (n + 1)}
	at := func(pigeon, hole int) int { return pigeon*n + hole + 1 }
	for p := range n + 1 {
		var any []int
		for h := range n {
			any = append(any, at(p, h))
			for q := range p {
				c.Clauses = append(c.Clauses, []int{-at(p, h), -at(q, h)})
			}
		}
		c.Clauses = append(c.Clauses, any)
	}
	return c
}

// of is an Engine of c.
func of(t *testing.T, c api.CNF, s api.Script) *sat.Engine {
	t.Helper()
	e := sat.New(c.Vars, s)
	for _, d := range c.Clauses {
		if !e.Add(d...) {
			t.Fatal(d)
		}
	}
	return e
}

// someClauses are many at random, of up to 3 literals; some say nothing, or have
// one twice.
func someClauses(r *rand.Rand, vars, many int) [][]int {
	var all [][]int
	for range many {
		all = append(all, someLits(r, vars, 1+r.Intn(3)))
	}
	return all
}

func someLits(r *rand.Rand, vars, many int) []int {
	var c []int
	for range many {
		c = append(c, (1+r.Intn(vars))*(1-2*r.Intn(2)))
	}
	return c
}

func someNumbers(r *rand.Rand) []int {
	var l []int
	for range r.Intn(5) {
		l = append(l, r.Intn(9)-4)
	}
	return l
}

func someScript(r *rand.Rand) api.Script {
	return api.Script{Restart: someNumbers(r), Keep: someNumbers(r), Tie: someNumbers(r), Sign: someNumbers(r)}
}

// canBe tells by all values whether clauses can be true, and these literals.
func canBe(t *testing.T, vars int, clauses [][]int, also []int) bool {
	t.Helper()
	all := slices.Clone(clauses)
	for _, l := range also {
		all = append(all, []int{l})
	}
	_, is, err := slow.Sat(api.CNF{Vars: vars, Clauses: all})
	if err != nil {
		t.Fatal(err)
	}
	return is
}

// isTrue tells whether a literal of c is true.
func isTrue(c []int, model []bool) bool {
	return slices.ContainsFunc(c, func(l int) bool { return model[lits.Var(l)] == (l > 0) })
}

// pairs tells whether one of l is another's opposite.
func pairs(l []int) bool {
	return slices.ContainsFunc(l, func(x int) bool { return slices.Contains(l, -x) })
}

// judge holds an answer against all values.
func judge(t *testing.T, vars int, clauses [][]int, assume []int, r api.Result) {
	t.Helper()
	if want := canBe(t, vars, clauses, assume); r.Sat != want {
		t.Fatal(clauses, assume, r, want)
	}
	if r.Sat {
		judgeModel(t, vars, clauses, assume, r)
		return
	}
	if len(r.Model) > 0 || canBe(t, vars, clauses, r.Core) {
		t.Fatal(clauses, assume, r)
	}
	for i, l := range r.Core {
		if !slices.Contains(assume, l) || slices.Contains(r.Core[:i], l) {
			t.Fatal(clauses, assume, r)
		}
	}
	alone := canBe(t, vars, clauses, nil)
	if alone != (len(r.Core) > 0) || alone && pairs(assume) != pairs(r.Core) {
		t.Fatal(clauses, assume, r, alone)
	}
}

func judgeModel(t *testing.T, vars int, clauses [][]int, assume []int, r api.Result) {
	t.Helper()
	if len(r.Core) > 0 || len(r.Model) != vars+1 || r.Model[0] {
		t.Fatal(vars, r)
	}
	for _, c := range clauses {
		if !isTrue(c, r.Model) {
			t.Fatal(c, r)
		}
	}
	for _, l := range assume {
		if !isTrue([]int{l}, r.Model) {
			t.Fatal(assume, r)
		}
	}
}

// base is clauses, some of them logged, by which steps of a log are looked at.
type base struct {
	vars          int
	added, logged [][]int
	drops         int
}

// follows tells whether c does by what has one literal left alone, as plain as
// can be.
func (b *base) follows(c []int) bool {
	value := make([]int, b.vars+1)
	set := func(l int) bool {
		if value[lits.Var(l)] == -l {
			return false
		}
		value[lits.Var(l)] = l
		return true
	}
	for _, l := range c {
		if !set(-l) {
			return true
		}
	}
	for more := true; more; {
		more = false
		for _, d := range append(slices.Clone(b.added), b.logged...) {
			open, many, is := 0, 0, false
			for _, l := range d {
				is = is || value[lits.Var(l)] == l
				if value[lits.Var(l)] == 0 && l != open {
					open, many = l, many+1
				}
			}
			if is || many > 1 {
				continue
			}
			if many == 0 {
				return true
			}
			more = set(open)
		}
	}
	return false
}

// take takes steps, one by one: each clause that is added follows, and only what
// was logged is dropped.
func (b *base) take(t *testing.T, steps []api.Step) {
	t.Helper()
	for i, s := range steps {
		if !s.Delete {
			if !b.follows(s.Lits) {
				t.Fatal(i, s)
			}
			b.logged = append(b.logged, s.Lits)
			continue
		}
		at := slices.IndexFunc(b.logged, func(c []int) bool { return lits.Same(c, s.Lits) })
		if at < 0 {
			t.Fatal(i, s)
		}
		b.logged = slices.Delete(b.logged, at, at+1)
		b.drops++
	}
}

// opposites is the opposites of c.
func opposites(c []int) []int {
	var all []int
	for _, l := range c {
		all = append(all, -l)
	}
	return all
}

// endsWith tells that the last step adds the opposites of core.
func endsWith(t *testing.T, log []api.Step, core []int) {
	t.Helper()
	if len(log) == 0 {
		t.Fatal("nothing is logged")
	}
	if last := log[len(log)-1]; last.Delete || !lits.Same(last.Lits, opposites(core)) || len(last.Lits) != len(core) {
		t.Fatal(last, core)
	}
}

func TestNothing(t *testing.T) {
	want := api.Result{Sat: true, Model: []bool{false}}
	if got, err := sat.Solve(api.CNF{}, api.Script{}); err != nil || !reflect.DeepEqual(got, want) {
		t.Error(got, err)
	}
	for _, vars := range []int{0, -1, math.MinInt} {
		e := sat.New(vars, api.Script{})
		if got, err := e.Solve(); err != nil || !reflect.DeepEqual(got, want) {
			t.Error(vars, got, err)
		}
		if len(e.Log()) > 0 || e.Conflicts() != 0 || e.Add(1) {
			t.Error(vars, e.Log())
		}
	}
}

func TestNewAndGrowAreCut(t *testing.T) {
	for _, vars := range []int{api.MaxVars, api.MaxVars + 1, math.MaxInt} {
		e := sat.New(vars, api.Script{})
		f := sat.New(3, api.Script{})
		f.Grow(vars)
		for i, x := range []*sat.Engine{e, f} {
			if !x.Add(-api.MaxVars) || x.Add(api.MaxVars+1) {
				t.Error(vars, i)
			}
			if got, err := x.Solve(1, -2); err != nil || len(got.Model) != api.MaxVars+1 || !got.Model[1] {
				t.Error(vars, i, err)
			}
		}
	}
}

func TestGrow(t *testing.T) {
	e := sat.New(2, api.Script{})
	e.Add(1, 2)
	for i, x := range []struct{ grow, vars int }{{0, 2}, {-9, 2}, {2, 2}, {1, 2}, {4, 4}, {3, 4}, {7, 7}} {
		e.Grow(x.grow)
		r, err := e.Solve(-1, x.vars)
		if err != nil || !r.Sat || len(r.Model) != x.vars+1 || !r.Model[2] {
			t.Error(i, r, err)
		}
		if e.Add(x.vars+1) || e.Add(-x.vars-1) {
			t.Error(i)
		}
		if _, err := e.Solve(x.vars + 1); err != api.ErrRange {
			t.Error(i, err)
		}
	}
	// what is new is looked at as what was there
	e.Add(-6, -7)
	e.Add(-6, 7)
	if r, err := e.Solve(-1, 6); err != nil || r.Sat || !slices.Equal(r.Core, []int{6}) {
		t.Error(r, err)
	}
}

var wrong = [][]int{{0}, {4}, {-4}, {1, 0}, {-1, 2, 4}, {1, -1, 9}, {math.MaxInt}, {-1 << 61, 1}}

func TestWrongLiterals(t *testing.T) {
	e := sat.New(3, api.Script{})
	e.Add(1)
	e.Add(-1, 2)
	for _, c := range wrong {
		if e.Add(c...) {
			t.Error(c)
		}
		r, err := e.Solve(c...)
		if err != api.ErrRange || !reflect.DeepEqual(r, api.Result{}) {
			t.Error(c, r, err)
		}
	}
	if len(e.Log()) > 0 || e.Conflicts() != 0 {
		t.Error(e.Log())
	}
	if r, err := e.Solve(); err != nil || !r.Sat {
		t.Error(r, err)
	}
	// it is told ahead of all else
	e.Add()
	if _, err := e.Solve(4); err != api.ErrRange {
		t.Error(err)
	}
	if r, err := e.Solve(3); err != nil || r.Sat || len(r.Core) > 0 {
		t.Error(r, err)
	}
}

// What is not taken, or says nothing, changes nothing: an Engine that is asked for
// it and one that is not go on in the same way.
func TestChangesNothing(t *testing.T) {
	r := rand.New(rand.NewSource(181))
	for range 200 {
		s := someScript(r)
		e, f := sat.New(7, s), sat.New(7, s)
		for round := range 4 {
			for _, c := range someClauses(r, 7, 10) {
				e.Add(c...)
				f.Add(c...)
			}
			for _, c := range wrong {
				c = append(slices.Clone(c), 99)
				f.Add(c...)
				f.Solve(c...)
			}
			e.Grow(8 + round)
			f.Grow(8 + round)
			if v := 1 + r.Intn(8+round); !f.Add(v, -v) || !f.Add(1, v, 2, -v, v) {
				t.Fatal(v)
			}
			assume := someLits(r, 8+round, r.Intn(4))
			x, _ := e.Solve(assume...)
			y, _ := f.Solve(assume...)
			if !reflect.DeepEqual(x, y) || !reflect.DeepEqual(e.Log(), f.Log()) || e.Conflicts() != f.Conflicts() {
				t.Fatal(x, y)
			}
		}
	}
}

func TestCores(t *testing.T) {
	for i, x := range []struct {
		clauses [][]int
		assume  []int
		core    []int // by Var
	}{
		{[][]int{{1}}, []int{-1}, []int{-1}},
		{[][]int{{1}}, []int{2, -1, 3}, []int{-1}},
		{[][]int{{-1, 2}, {-2, 3}}, []int{4, 1, -3}, []int{1, -3}},
		{[][]int{{-1, 2}, {-2, 3}}, []int{-3, 4, 1, 1, -3}, []int{1, -3}},
		{nil, []int{1, -1}, []int{-1, 1}},
		{nil, []int{3, -2, 1, 2}, []int{-2, 2}},
		{[][]int{{1}}, []int{1, -1}, []int{-1, 1}},
		{[][]int{{1}}, []int{-1, 1}, []int{-1, 1}},
		{[][]int{{-1, -2}}, []int{1, 2, 3, -3}, []int{-3, 3}},
		{[][]int{{1}, {-1}}, []int{2}, nil},
		{[][]int{{1}, {-1}}, []int{2, -2}, nil},
		{[][]int{{1}, {-1}}, []int{1, -1}, nil},
		{[][]int{{1}, {-1}}, nil, nil},
		{[][]int{{}}, []int{1}, nil},
		{[][]int{{1, 2}, {1, -2}, {-1, 2}, {-1, -2}}, []int{1}, nil},
		{[][]int{{1, 2}, {1, -2}, {-1, 2}, {-1, -2}}, []int{3, -3}, nil},
		{[][]int{{1, 2}, {1, -2}, {-1, 2}, {-1, -2}, {-3, -4}}, []int{3, 4}, nil},
		{[][]int{{1, 2}, {1, -2}, {-1, 2}, {-3, -4}}, []int{3, 4}, []int{3, 4}},
		{[][]int{{-1, 2, 3}, {-1, 2, -3}, {-1, -2, 3}, {-1, -2, -3}}, []int{4, 1}, []int{1}},
	} {
		e := of(t, api.CNF{Vars: 4, Clauses: x.clauses}, api.Script{})
		r, err := e.Solve(x.assume...)
		if err != nil || r.Sat || len(r.Model) > 0 {
			t.Fatal(i, r, err)
		}
		slices.SortFunc(r.Core, func(a, b int) int { return 2*(lits.Var(a)-lits.Var(b)) + min(max(a-b, -1), 1) })
		if !slices.Equal(r.Core, x.core) {
			t.Error(i, r.Core)
		}
		endsWith(t, e.Log(), r.Core)
		(&base{vars: 4, added: x.clauses}).take(t, e.Log())
		// asked again: the same, and logged again
		many := len(e.Log())
		if again, err := e.Solve(x.assume...); err != nil || again.Sat || !lits.Same(again.Core, x.core) {
			t.Error(i, again, err)
		}
		if len(e.Log()) <= many {
			t.Error(i, e.Log())
		}
		endsWith(t, e.Log(), x.core)
	}
}

func TestAgainstAllValues(t *testing.T) {
	r := rand.New(rand.NewSource(18))
	yes, no, alone := 0, 0, 0
	for range 3000 {
		vars := 1 + r.Intn(8)
		e := sat.New(vars, someScript(r))
		b := &base{}
		for range 1 + r.Intn(4) {
			vars = min(vars+r.Intn(2), 9)
			e.Grow(vars)
			for _, c := range someClauses(r, vars, r.Intn(3*vars)) {
				if !e.Add(c...) {
					t.Fatal(c)
				}
				b.added = append(b.added, c)
			}
			assume := someLits(r, vars, r.Intn(5))
			given := slices.Clone(assume)
			before := len(e.Log())
			x, err := e.Solve(assume...)
			if err != nil || !slices.Equal(assume, given) {
				t.Fatal(err, assume)
			}
			judge(t, vars, b.added, assume, x)
			b.vars = vars
			b.take(t, e.Log()[before:])
			switch {
			case x.Sat:
				yes++
				continue
			case len(x.Core) > 0:
				no++
			default:
				alone++
			}
			if len(e.Log()) == before {
				t.Fatal("nothing is logged")
			}
			endsWith(t, e.Log(), x.Core)
		}
	}
	if yes < 500 || no < 500 || alone < 500 {
		t.Error(yes, no, alone)
	}
}

// scripts are such as make it hard to come to an end.
var scripts = []api.Script{
	{},
	{Restart: []int{1}},
	{Keep: []int{1}},
	{Restart: []int{1}, Keep: []int{1}},
	{Restart: []int{1}, Keep: []int{1}, Sign: []int{3}},
	{Restart: []int{1}, Keep: []int{-1}, Sign: []int{3, 0, 1, 2}, Tie: []int{5, math.MaxInt, math.MinInt, -3}},
	{Restart: []int{0, 1}, Keep: []int{1, 0, 1}, Sign: []int{2, 1}, Tie: []int{7}},
}

func TestEnds(t *testing.T) {
	r := rand.New(rand.NewSource(182))
	wide := api.CNF{Vars: 120, Clauses: someThrees(r, 120, 516)}
	drops := make([]int, len(scripts))
	for i, s := range scripts {
		if x, err := sat.Solve(wide, s); err != nil || x.Sat {
			t.Error(i, x, err)
		}
		c := holes(6)
		e := of(t, c, s)
		if x, err := e.Solve(); err != nil || x.Sat || len(x.Core) > 0 {
			t.Error(i, x, err)
		}
		b := &base{vars: c.Vars, added: c.Clauses}
		b.take(t, e.Log())
		drops[i] = b.drops
		endsWith(t, e.Log(), nil)
		many := 0
		for _, x := range e.Log() {
			if !x.Delete {
				many++
			}
		}
		if e.Conflicts() != many-1 { // one clause each, and the clause of nothing
			t.Error(i, e.Conflicts(), many)
		}
	}
	for i, s := range scripts {
		if keeps := len(s.Keep) == 0; keeps != (drops[i] == 0) {
			t.Error(i, drops[i])
		}
	}
}

// A Core's clause still follows where, behind it, the clauses alone were looked
// at, and what it followed from was dropped on the way.
func TestCoreOutlivesDrops(t *testing.T) {
	r := rand.New(rand.NewSource(185))
	met := 0
	for range 30 {
		c := holes(4)
		gates := []int{c.Vars + 1, c.Vars + 2, c.Vars + 3}
		for i, d := range c.Clauses {
			c.Clauses[i] = append(d, opposites(gates)...)
		}
		for _, d := range someThrees(r, 100, 410) { // of other variables
			for i, l := range d {
				d[i] = l + 23*max(-1, min(l, 1))
			}
			c.Clauses = append(c.Clauses, d)
		}
		c.Vars = 123
		e := of(t, c, api.Script{Keep: []int{1}})
		x, err := e.Solve(gates...)
		if err != nil || x.Sat {
			t.Fatal(x, err)
		}
		endsWith(t, e.Log(), x.Core)
		b := &base{vars: c.Vars, added: c.Clauses}
		b.take(t, e.Log())
		if len(x.Core) == 3 && b.drops > 0 {
			met++
		}
	}
	if met < 3 {
		t.Error(met)
	}
}

// someThrees are clauses of three different variables.
func someThrees(r *rand.Rand, vars, many int) [][]int {
	var all [][]int
	for len(all) < many {
		c := someLits(r, vars, 3)
		if n, says := lits.Norm(c...); says && len(n) == 3 {
			all = append(all, c)
		}
	}
	return all
}

// A long one, whose values follow one from the other, and many assumptions.
func TestLong(t *testing.T) {
	e := sat.New(api.MaxVars, api.Script{})
	for v := 1; v < api.MaxVars; v++ {
		e.Add(-v, v+1)
	}
	if r, err := e.Solve(1, -api.MaxVars); err != nil || r.Sat || !lits.Same(r.Core, []int{1, -api.MaxVars}) {
		t.Error(r.Sat, r.Core, err)
	}
	var all []int
	for v := api.MaxVars; v > 0; v-- {
		all = append(all, v)
	}
	if r, err := e.Solve(all...); err != nil || !r.Sat || slices.Contains(r.Model[1:], false) {
		t.Error(r.Sat, err)
	}
	all[0] = -all[0]
	if r, err := e.Solve(all...); err != nil || r.Sat || len(r.Core) != 2 || !slices.Contains(r.Core, -api.MaxVars) {
		t.Error(r.Sat, r.Core, err)
	}
}

func TestBudget(t *testing.T) {
	for _, budget := range []int{1, 2, 7, 100} {
		c := holes(6)
		e := of(t, c, api.Script{Conflicts: budget})
		for again := range 3 {
			r, err := e.Solve()
			if err != api.ErrBudget || !reflect.DeepEqual(r, api.Result{}) {
				t.Error(budget, r, err)
			}
			if e.Conflicts() != budget+1+again { // the pace is asked each time
				t.Error(budget, again, e.Conflicts())
			}
		}
		(&base{vars: c.Vars, added: c.Clauses}).take(t, e.Log())
		if len(e.Log()) != budget {
			t.Error(budget, len(e.Log()))
		}
		// some can't be at once, but whether the clauses alone can nobody knows
		for i, assume := range [][]int{{1, -1}, {5, 3, -2, 2}, {1, 7}} { // two pigeons in one hole
			before := e.Conflicts()
			r, err := e.Solve(assume...)
			if err != api.ErrBudget || !reflect.DeepEqual(r, api.Result{}) || e.Conflicts() != before+1 {
				t.Error(budget, i, r, err)
			}
		}
		if len(e.Log()) != budget {
			t.Error(budget, len(e.Log()))
		}
		// what is known at once is told, and asks for nothing
		before := e.Conflicts()
		if !e.Add(1) || !e.Add(-1) {
			t.Error(budget)
		}
		for i, assume := range [][]int{nil, {1, -1}, {2, 3}} {
			r, err := e.Solve(assume...)
			if err != nil || r.Sat || len(r.Core) > 0 {
				t.Error(budget, i, r, err)
			}
			endsWith(t, e.Log(), nil)
		}
		if e.Conflicts() != before {
			t.Error(budget, e.Conflicts())
		}
	}
}

// eight is all clauses of three literals of three variables: they can't be true.
func eight() api.CNF {
	c := api.CNF{Vars: 3}
	for _, x := range []int{1, -1} {
		for _, y := range []int{2, -2} {
			c.Clauses = append(c.Clauses, []int{x, y, 3}, []int{x, y, -3})
		}
	}
	return c
}

// Where the budget is used up and the clauses alone can't be true, none of assume
// is blamed.
func TestBudgetBlamesNobody(t *testing.T) {
	for _, s := range scripts {
		for budget := range 6 {
			s.Conflicts = budget
			for _, l := range []int{1, -1, 2, -2, 3, -3} {
				e := of(t, eight(), s)
				for range 2 {
					r, err := e.Solve(l)
					if none := reflect.DeepEqual(r, api.Result{}); !none || err != nil && err != api.ErrBudget || err != nil && s.Conflicts == 0 {
						t.Error(s, l, r, err)
					}
				}
			}
		}
	}
	c := holes(3)
	c.Vars = 13
	c.Clauses = append(c.Clauses, []int{-13})
	e := of(t, c, api.Script{Conflicts: 1})
	for i, assume := range [][]int{nil, {13}, {1, -1}, {13, -13}, {2, 13, 1}, nil} {
		if r, err := e.Solve(assume...); err != api.ErrBudget || !reflect.DeepEqual(r, api.Result{}) {
			t.Error(i, r, err)
		}
	}
	(&base{vars: c.Vars, added: c.Clauses}).take(t, e.Log())
}

// Where the clauses alone are known to be able to be true, or that is found at
// once, Core is some of assume, also when the budget is used up.
func TestBudgetAndCore(t *testing.T) {
	for _, known := range []bool{false, true} { // with sign 1 it would not be found at once
		sign := 2
		if known {
			sign = 1
		}
		c := holes(4)
		gate := c.Vars + 1
		for i, d := range c.Clauses {
			c.Clauses[i] = append(d, -gate)
		}
		c.Vars++
		e := of(t, c, api.Script{Conflicts: 2, Sign: []int{sign}})
		if known {
			if r, err := e.Solve(-gate); err != nil || !r.Sat {
				t.Error(r, err)
			}
		}
		if r, err := e.Solve(gate); err != api.ErrBudget {
			t.Error(r, err)
		}
		e.Add(-1, 2)
		before := e.Conflicts()
		for i, assume := range [][]int{{3, 1, -1}, {3, -2, 1}, {gate, 3, -gate}} {
			r, err := e.Solve(assume...)
			if err != nil || r.Sat || !lits.Same(r.Core, [][]int{{1, -1}, {1, -2}, {gate, -gate}}[i]) {
				t.Error(known, i, r, err)
			}
			endsWith(t, e.Log(), r.Core)
		}
		if e.Conflicts() != before {
			t.Error(known, e.Conflicts())
		}
		(&base{vars: c.Vars, added: append(c.Clauses, []int{-1, 2})}).take(t, e.Log())
	}
}

// The clauses alone are looked at too, and that may use the budget up.
func TestBudgetOfTheClausesAlone(t *testing.T) {
	c := holes(6)
	for i, x := range []struct {
		budget int
		err    error
	}{{0, nil}, {5, api.ErrBudget}, {100000, nil}} {
		e := of(t, c, api.Script{Conflicts: x.budget})
		r, err := e.Solve(1, -1)
		if err != x.err || !reflect.DeepEqual(r, api.Result{}) {
			t.Error(i, r, err)
		}
		(&base{vars: c.Vars, added: c.Clauses}).take(t, e.Log())
	}
}

func TestBudgetIsEnough(t *testing.T) {
	four := [][]int{{1, 2}, {1, -2}, {-1, 2}, {-1, -2}}
	for i, budget := range []int{1, 0, -1, 2, math.MinInt, math.MaxInt} {
		e := of(t, api.CNF{Vars: 2, Clauses: four}, api.Script{Conflicts: budget})
		for range 2 {
			if r, err := e.Solve(); err != nil || r.Sat || e.Conflicts() != 1 { // the other one is at level 0
				t.Error(i, r, err, e.Conflicts())
			}
		}
	}
	e := sat.New(1, api.Script{Conflicts: 1})
	e.Add(1)
	e.Add(-1)
	if r, err := e.Solve(1); err != nil || r.Sat || e.Conflicts() != 0 {
		t.Error(r, err, e.Conflicts())
	}
}

// Whatever the budget, what is told is right, and the budget is told just where
// the pace has said no.
func TestBudgetsAgainstAllValues(t *testing.T) {
	r := rand.New(rand.NewSource(183))
	told := 0
	for range 1500 {
		vars := 4 + r.Intn(5)
		s := someScript(r)
		s.Conflicts = 1 + r.Intn(6)
		e := sat.New(vars, s)
		b := &base{vars: vars}
		for range 3 {
			for _, c := range someThrees(r, vars, 2*vars) {
				e.Add(c...)
				b.added = append(b.added, c)
			}
			assume := someLits(r, vars, r.Intn(3))
			before, logged := e.Conflicts(), len(e.Log())
			x, err := e.Solve(assume...)
			b.take(t, e.Log()[logged:])
			if over := e.Conflicts() > max(before, s.Conflicts); over != (err == api.ErrBudget) || err != nil && !over {
				t.Fatal(err, before, e.Conflicts(), s.Conflicts)
			}
			if err != nil {
				told++
				continue
			}
			judge(t, vars, b.added, assume, x)
		}
	}
	if told < 100 {
		t.Error(told)
	}
}

func TestSolveOfClauses(t *testing.T) {
	for i, x := range []struct {
		c   api.CNF
		pos int // -1: the error alone
		err error
	}{
		{api.CNF{Vars: -1}, -1, api.ErrLimit},
		{api.CNF{Vars: api.MaxVars + 1}, -1, api.ErrLimit},
		{api.CNF{Vars: 1, Clauses: make([][]int, api.MaxClauses+1)}, -1, api.ErrLimit},
		{api.CNF{Vars: 1, Clauses: [][]int{make([]int, api.MaxLits+1)}}, -1, api.ErrLimit},
		{api.CNF{Vars: 1, Clauses: [][]int{{1}, {-1, 2}, {0}}}, 1, api.ErrRange},
		{api.CNF{Vars: 1, Clauses: [][]int{{}, {1}, {0}}}, 2, api.ErrRange},
		{api.CNF{Clauses: [][]int{{1}}}, 0, api.ErrRange},
	} {
		r, err := sat.Solve(x.c, api.Script{})
		at := &api.At{Pos: -1}
		if errors.As(err, &at); !errors.Is(err, x.err) || at.Pos != x.pos || !reflect.DeepEqual(r, api.Result{}) {
			t.Error(i, r, err)
		}
	}
	r := rand.New(rand.NewSource(184))
	for range 500 {
		vars := 1 + r.Intn(9)
		c := api.CNF{Vars: vars, Clauses: someClauses(r, vars, r.Intn(4*vars))}
		x, err := sat.Solve(c, someScript(r))
		if err != nil {
			t.Fatal(err)
		}
		judge(t, vars, c.Clauses, nil, x)
	}
	if x, err := sat.Solve(holes(5), api.Script{Conflicts: 3}); err != api.ErrBudget || !reflect.DeepEqual(x, api.Result{}) {
		t.Error(x, err)
	}
	if x, err := sat.Solve(api.CNF{Vars: 1, Clauses: [][]int{{}}}, api.Script{}); err != nil || x.Sat {
		t.Error(x, err)
	}
}

// What is handed in is neither kept nor changed, what is handed out is new.
func TestMemory(t *testing.T) {
	s := api.Script{Sign: []int{1}, Restart: []int{1}, Keep: []int{1}, Tie: []int{1}}
	e, f := sat.New(4, s), sat.New(4, api.Script{Sign: []int{1}, Restart: []int{1}, Keep: []int{1}, Tie: []int{1}})
	s.Sign[0], s.Restart[0], s.Keep[0], s.Tie[0] = 2, 0, 0, 0
	room := []int{-1, 2, 77}
	e.Add(room[:2]...)
	f.Add(-1, 2)
	if room[0], room[1] = 3, 3; room[2] != 77 {
		t.Error(room)
	}
	for _, assume := range [][]int{{1}, {1, -2}, {3, -3}, {-2, 1, 4}, nil} {
		given := append(slices.Clone(assume), 55)
		x, err := e.Solve(given[:len(assume)]...)
		y, _ := f.Solve(assume...)
		if err != nil || !reflect.DeepEqual(x, y) || !slices.Equal(given, append(slices.Clone(assume), 55)) {
			t.Error(x, y, err, given)
		}
		spoil(x.Core)
		for i := range x.Model {
			x.Model[i] = !x.Model[i]
		}
		log := e.Log()
		for i := range log {
			spoil(log[i].Lits)
			log[i].Delete = true
		}
		_ = append(log, api.Step{Delete: true})
		if !reflect.DeepEqual(e.Log(), f.Log()) {
			t.Error(e.Log(), f.Log())
		}
	}
	// nil and nothing are the same
	if !e.Add([]int{}...) {
		t.Error("a clause of nothing")
	}
	if r, err := e.Solve([]int{}...); err != nil || r.Sat {
		t.Error(r, err)
	}
}

// spoil writes into all of l's memory.
func spoil(l []int) {
	for i := range l[:cap(l)] {
		l[:cap(l)][i] = 99
	}
}

// The model that is kept is not the one that was handed out: it tells which
// clauses it makes true by what it was.
func TestModelIsItsOwn(t *testing.T) {
	e := sat.New(3, api.Script{})
	x, err := e.Solve()
	if err != nil || !x.Sat {
		t.Fatal(x, err)
	}
	for _, c := range [][]int{{1, 2}, {1, -2}, {-1, 2}, {-1, -2}} {
		x.Model[1], x.Model[2] = c[0] > 0, c[1] > 0
		e.Add(c...)
	}
	if r, err := e.Solve(3, -3); err != nil || r.Sat || len(r.Core) > 0 {
		t.Error(r, err)
	}
}

// Where it is known that the clauses alone can be true, nothing is looked for.
func TestKnownModel(t *testing.T) {
	r := rand.New(rand.NewSource(186))
	for range 5 {
		vars := 60
		c := api.CNF{Vars: vars, Clauses: someThrees(r, vars, 210)}
		e := of(t, c, api.Script{Sign: []int{3, 1}})
		x, err := e.Solve()
		if err != nil {
			t.Fatal(err)
		}
		if !x.Sat {
			continue
		}
		e.Add(opposites([]int{2, -3, 4, -2})...) // says nothing
		for v := range vars {
			if l := v + 1; x.Model[l] {
				e.Add(l, 1)
			} else {
				e.Add(2, -l)
			}
		}
		before, many := e.Conflicts(), len(e.Log())
		if y, err := e.Solve(3, -3); err != nil || y.Sat || e.Conflicts() != before || len(e.Log()) != many+1 {
			t.Error(y, err, before, e.Conflicts(), e.Log()[many:])
		}
	}
}

// A clause that says nothing leaves known what is.
func TestKnownModelOfFewer(t *testing.T) {
	e := sat.New(1, api.Script{})
	e.Solve()
	e.Grow(2)
	if !e.Add(-2, 2) {
		t.Error("not taken")
	}
	if r, err := e.Solve(1, -1); err != nil || len(r.Core) != 2 || len(e.Log()) != 1 {
		t.Error(r, err, e.Log())
	}
}

// The script is asked which variable is next, which sign it has, when to restart.
func TestScript(t *testing.T) {
	for i, x := range []struct {
		s     api.Script
		model []bool
	}{
		{api.Script{}, []bool{false, false, false, false}},
		{api.Script{Sign: []int{2}}, []bool{false, false, false, false}},
		{api.Script{Sign: []int{1}}, []bool{false, true, false, true}},
		{api.Script{Sign: []int{3}}, []bool{false, true, false, true}},
		{api.Script{Sign: []int{1, 2}}, []bool{false, true, false, false}},
		{api.Script{Sign: []int{1}, Tie: []int{1}}, []bool{false, false, true, true}},
		{api.Script{Sign: []int{1}, Tie: []int{2, 1}}, []bool{false, false, true, true}},
	} {
		e := sat.New(3, x.s)
		e.Add(-1, -2)
		if r, err := e.Solve(); err != nil || !slices.Equal(r.Model, x.model) {
			t.Error(i, r, err)
		}
	}
	// what a variable was is kept
	e := sat.New(3, api.Script{})
	for i, x := range []struct {
		assume []int
		model  []bool
	}{{[]int{2}, []bool{false, false, true, false}}, {nil, []bool{false, false, true, false}}, {[]int{3, -2, 1}, []bool{false, true, false, true}}, {nil, []bool{false, true, false, true}}} {
		if r, err := e.Solve(x.assume...); err != nil || !slices.Equal(r.Model, x.model) {
			t.Error(i, r, err)
		}
	}
	one, other := of(t, holes(6), api.Script{}), of(t, holes(6), api.Script{Restart: []int{1}})
	one.Solve()
	other.Solve()
	if reflect.DeepEqual(one.Log(), other.Log()) {
		t.Error("no restart")
	}
}

// The same calls have the same answers.
func TestSame(t *testing.T) {
	for _, s := range scripts {
		e, f := of(t, holes(5), s), of(t, holes(5), s)
		x, _ := e.Solve(1, 7)
		y, _ := f.Solve(1, 7)
		if !reflect.DeepEqual(x, y) || !reflect.DeepEqual(e.Log(), f.Log()) {
			t.Error(s)
		}
	}
}
