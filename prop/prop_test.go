package prop_test

import (
	"fmt"
	"maps"
	"math"
	"math/rand"
	"slices"
	"testing"

	"skolem/api"
	"skolem/lits"
	"skolem/prop"
	"skolem/slow"
)

// ends is numbers at the ends of what an int may be.
var ends = []int{math.MinInt, math.MinInt + 1, -1 << 62, math.MaxInt - 1, math.MaxInt}

// fact is what a Prop tells of a variable that is known.
type fact struct{ value, level, reason int }

// witness makes calls of a Prop, and holds each answer against a plain reading of
// the chapter, by what it was told before.
type witness struct {
	t       *testing.T
	p       *prop.Prop
	calls   []string
	vars    int
	clauses [][]int // by id; nil: dropped
	decided []int
	facts   map[int]fact // by variable
}

// begin is a witness of a new Prop.
func begin(t *testing.T, vars int) *witness {
	w := &witness{t: t, p: prop.New(vars), vars: min(max(vars, 0), api.MaxVars), facts: map[int]fact{}}
	w.call("New", vars)
	w.look()
	return w
}

// call keeps what is called, to be told if something is wrong.
func (w *witness) call(name string, with ...any) {
	w.calls = append(w.calls, name+fmt.Sprint(with...))
}

// fail tells what is wrong, and all calls up to here.
func (w *witness) fail(format string, a ...any) {
	w.t.Helper()
	w.t.Fatalf(format+"; %v", append(a, w.calls)...)
}

// is tells whether l is right.
func (w *witness) is(l int) bool { return l != 0 && l >= -w.vars && l <= w.vars }

// value is what l is worth, by the facts.
func (w *witness) value(l int) int {
	f, known := w.facts[max(l, -l)]
	switch {
	case !known || l == 0:
		return api.Unknown
	case l > 0:
		return f.value
	}
	return api.True + api.False - f.value
}

// look holds all that the Prop tells against the facts.
func (w *witness) look() {
	w.t.Helper()
	if got := w.p.Level(); got != len(w.decided) {
		w.fail("Level = %d, want %d", got, len(w.decided))
	}
	for v := -2; v <= w.vars+2; v++ {
		want, known := w.facts[v]
		if !known {
			want = fact{api.Unknown, -1, -1}
		}
		if got := (fact{w.value(v), w.p.LevelOf(v), w.p.Reason(v)}); v < 1 && (got.level != -1 || got.reason != -1) || v > 0 && got != want {
			w.fail("of %d: %v, want %v", v, got, want)
		}
		if w.p.Value(v) != w.value(v) || w.p.Value(-v) != w.value(-v) {
			w.fail("Value of %d, %d: %d, %d", v, -v, w.p.Value(v), w.p.Value(-v))
		}
	}
	for id := -1; id <= len(w.clauses); id++ {
		var want []int
		if id >= 0 && id < len(w.clauses) {
			want = w.clauses[id]
		}
		if got, _ := lits.Norm(w.p.Clause(id)...); !slices.Equal(got, want) {
			w.fail("Clause(%d) = %v, want %v", id, got, want)
		}
	}
	w.lookTrail()
}

// lookTrail looks whether the Trail is the true literals, each once, and each
// behind those of its Reason, of which it is the only true one.
func (w *witness) lookTrail() {
	w.t.Helper()
	trail := w.p.Trail()
	if len(trail) != len(w.facts) {
		w.fail("the Trail is %v, of %v", trail, w.facts)
	}
	for i, l := range trail {
		if w.value(l) != api.True || slices.Contains(trail[:i], l) {
			w.fail("the Trail is %v, of %v", trail, w.facts)
		}
		f := w.facts[max(l, -l)]
		if f.reason == -1 {
			if f.level > 0 && w.decided[f.level-1] == l {
				continue
			}
			w.fail("%d was not decided", l)
		}
		reason := w.clauses[f.reason]
		if !slices.Contains(reason, l) {
			w.fail("the Reason of %d is %v", l, reason)
		}
		for _, other := range reason {
			if other != l && !slices.Contains(trail[:i], -other) {
				w.fail("the Reason of %d is %v, in %v", l, reason, trail)
			}
		}
	}
}

// add calls Add.
func (w *witness) add(c ...int) (int, bool) {
	w.t.Helper()
	w.call("Add", c)
	norm, right := lits.Norm(c...)
	for _, l := range c {
		right = right && w.is(l)
	}
	id, ok := w.p.Add(c...)
	if ok != right || ok && id != len(w.clauses) || !ok && id != 0 {
		w.fail("Add = %d, %t, want %d, %t", id, ok, len(w.clauses), right)
	}
	if ok {
		w.clauses = append(w.clauses, append([]int{}, norm...))
	}
	w.look()
	return id, ok
}

// drop calls Drop.
func (w *witness) drop(id int) bool {
	w.t.Helper()
	w.call("Drop", id)
	want := id >= 0 && id < len(w.clauses) && w.clauses[id] != nil
	for _, f := range w.facts {
		want = want && f.reason != id
	}
	if got := w.p.Drop(id); got != want {
		w.fail("Drop = %t", got)
	}
	if want {
		w.clauses[id] = nil
	}
	w.look()
	return want
}

// decide calls Decide.
func (w *witness) decide(l int) bool {
	w.t.Helper()
	w.call("Decide", l)
	want := w.is(l) && w.value(l) == api.Unknown
	if got := w.p.Decide(l); got != want {
		w.fail("Decide = %t", got)
	}
	if want {
		w.decided = append(w.decided, l)
		w.facts[max(l, -l)] = fact{w.p.Value(max(l, -l)), len(w.decided), -1}
		if w.value(l) != api.True {
			w.fail("%d is not true", l)
		}
	}
	w.look()
	return want
}

// back calls Back.
func (w *witness) back(level int) {
	w.t.Helper()
	w.call("Back", level)
	w.p.Back(level)
	level = min(max(level, 0), len(w.decided))
	w.decided = w.decided[:level]
	maps.DeleteFunc(w.facts, func(_ int, f fact) bool { return f.level > level })
	w.look()
}

// grow calls Grow.
func (w *witness) grow(vars int) {
	w.t.Helper()
	w.call("Grow", vars)
	w.p.Grow(vars)
	w.vars = max(w.vars, min(vars, api.MaxVars))
	w.look()
}

// propagate calls Propagate: what was known is as it was; what is new is of this
// level, and follows; and nothing else does, if there is no conflict.
func (w *witness) propagate() int {
	w.t.Helper()
	w.call("Propagate")
	id := w.p.Propagate()
	for v := 1; v <= w.vars; v++ {
		if _, known := w.facts[v]; !known && w.p.Value(v) != api.Unknown {
			f := fact{w.p.Value(v), len(w.decided), w.p.Reason(v)}
			if f.reason < 0 || f.reason >= len(w.clauses) {
				w.fail("the Reason of %d is %d", v, f.reason)
			}
			w.facts[v] = f
		}
	}
	w.look()
	if id != -1 {
		if id < 0 || id >= len(w.clauses) || w.clauses[id] == nil || !w.allFalse(w.clauses[id]) {
			w.fail("Propagate = %d", id)
		}
		return id
	}
	for id, c := range w.clauses {
		if c != nil && w.open(c) {
			w.fail("something follows out of %d", id)
		}
	}
	return id
}

// allFalse tells whether all of c is false.
func (w *witness) allFalse(c []int) bool {
	return !slices.ContainsFunc(c, func(l int) bool { return w.value(l) != api.False })
}

// open tells whether c is all false, or but for one literal that is Unknown.
func (w *witness) open(c []int) bool {
	unknown := 0
	for _, l := range c {
		switch w.value(l) {
		case api.True:
			return false
		case api.Unknown:
			unknown++
		}
	}
	return unknown < 2
}

func TestNew(t *testing.T) {
	for _, vars := range []int{
		0, 1, 2, 3, 100, api.MaxVars - 1, api.MaxVars, api.MaxVars + 1, 1 << 30, math.MaxInt, -1, -5, math.MinInt,
	} {
		w := begin(t, vars)
		checkVars(w)
	}
	p := prop.New(1)
	if id, ok := p.Add(1); id != 0 || !ok || p.Propagate() != -1 || p.Value(1) != api.True {
		t.Error("the example")
	}
}

// checkVars looks whether w's variables, and no others, may be in a clause, and
// be decided.
func checkVars(w *witness) {
	w.t.Helper()
	for _, v := range append([]int{1, 2, 3, w.vars, w.vars + 1, w.vars + 2, 0, api.MaxVars + 1}, ends...) {
		if _, ok := w.add(v, 0); ok {
			w.fail("%d, 0 is a clause", v)
		}
		for _, l := range []int{v, -v} {
			if _, ok := w.add(l); ok != w.is(l) {
				w.fail("%d is a clause: %t", l, ok)
			}
		}
	}
	for _, v := range append([]int{w.vars + 1, w.vars + 2, 0, -w.vars, -1, -w.vars - 1, api.MaxVars + 1, 1}, ends...) {
		w.decide(v)
	}
}

func TestGrow(t *testing.T) {
	for _, x := range [][]int{
		{0, 1}, {0, 5}, {1, 2}, {3, 4}, {3, 9}, {-3, 3}, {3, 3}, {3, 2}, {3, 0}, {3, -1}, {3, math.MinInt}, {0, 0}, {0, math.MinInt},
		{3, api.MaxVars}, {3, api.MaxVars + 1}, {0, math.MaxInt}, {api.MaxVars, math.MaxInt}, {api.MaxVars, 5}, {api.MaxVars, math.MinInt},
		{0, 1, 2, 3, 2, 7, 8, 9, 30},
	} {
		w := begin(t, x[0])
		for _, vars := range x[1:] {
			w.grow(vars)
		}
		checkVars(w)
	}
}

// TestGrowKeeps: what is true, and what is there, is as it was; and follows as it
// would have.
func TestGrowKeeps(t *testing.T) {
	for _, vars := range []int{0, 4, 5, 6, 40, -1, math.MinInt} {
		w := begin(t, 4)
		w.add(-1, 2)
		w.add(-3, -2, 4)
		w.add(3)
		w.decide(1)
		w.grow(vars)
		if w.propagate() != -1 || w.p.Value(4) != api.True || w.p.LevelOf(4) != 1 {
			w.fail("4 follows")
		}
		w.grow(vars + 1)
		w.grow(w.vars + 1)
		if _, ok := w.add(-4, w.vars); !ok || w.propagate() != -1 || w.value(w.vars) != api.True {
			w.fail("the new one follows")
		}
		w.back(0)
		if w.propagate() != -1 || w.value(3) != api.True || w.value(2) != api.Unknown {
			w.fail("3 alone follows")
		}
	}
}

func TestAdd(t *testing.T) {
	w := begin(t, 4)
	for i, x := range []struct {
		c    []int
		want int // -1: false
	}{
		{[]int{1, 2}, 0}, {[]int{2, 1, 2}, 1}, {[]int{-4}, 2}, {[]int{1, -1}, -1}, {[]int{3, 2, 1, -3}, -1},
		{[]int{0}, -1}, {[]int{5}, -1}, {[]int{-5}, -1}, {[]int{1, 0}, -1}, {[]int{1, 5}, -1}, {[]int{5, -5}, -1},
		{[]int{math.MinInt}, -1}, {[]int{math.MaxInt, 1}, -1}, {[]int{math.MinInt, math.MinInt}, -1},
		{[]int{1, 2}, 3}, {[]int{4, 3, 2, 1}, 4}, {[]int{-1, -1, -1}, 5}, {nil, 6}, {[]int{}, 7}, {[]int{-2, -3}, 8},
	} {
		id, ok := w.add(x.c...)
		if ok != (x.want >= 0) || id != max(x.want, 0) {
			t.Errorf("%d: Add(%v) = %d, %t", i, x.c, id, ok)
		}
	}
	for id, want := range map[int][]int{0: {1, 2}, 1: {1, 2}, 4: {1, 2, 3, 4}, 5: {-1}, 6: nil, 8: {-2, -3}, -1: nil, 9: nil, math.MinInt: nil, math.MaxInt: nil} {
		if got := w.p.Clause(id); !lits.Same(got, want) || len(got) != len(want) {
			t.Errorf("Clause(%d) = %v", id, got)
		}
	}
}

// TestAddTellsNothing: a clause is there when it is added, but what follows is
// true only when it is asked for.
func TestAddTellsNothing(t *testing.T) {
	w := begin(t, 2)
	w.add(1)
	if w.value(1) != api.Unknown || !w.decide(-1) {
		w.fail("it is true")
	}
	if w.propagate() != 0 || w.propagate() != 0 {
		w.fail("both")
	}
	w.back(0)
	if w.propagate() != -1 || w.p.LevelOf(1) != 0 || w.p.Reason(1) != 0 || w.decide(-1) || w.decide(1) {
		w.fail("1 is not true")
	}
}

func TestDrop(t *testing.T) {
	w := begin(t, 4)
	w.add(-1, 2)
	w.add(-2, 3)
	w.add(4, 3)
	for _, id := range append([]int{-1, 3, 4}, ends...) {
		if w.drop(id) {
			w.fail("none is dropped")
		}
	}
	w.decide(1)
	if w.propagate() != -1 || w.p.Reason(2) != 0 || w.p.Reason(3) != 1 || w.drop(0) || w.drop(1) || !w.drop(2) {
		w.fail("0 and 1 are Reasons")
	}
	w.add(4, -3)
	w.back(0)
	if !w.drop(0) || w.drop(0) || w.drop(2) || len(w.p.Clause(0)) > 0 {
		w.fail("it is there")
	}
	w.decide(1)
	if w.propagate() != -1 || w.value(2) != api.Unknown {
		w.fail("nothing follows")
	}
	w.decide(2)
	if w.propagate() != -1 || w.value(3) != api.True || w.p.Reason(4) != 3 || w.drop(1) || w.drop(3) {
		w.fail("3 and 4 follow")
	}
	w.back(1)
	if id, _ := w.add(-1, 2); id != 4 || w.propagate() != -1 || w.p.Reason(2) != 4 || w.value(4) != api.True {
		w.fail("as a new one")
	}
}

// TestDropAtLevel0: a Reason there is one for good.
func TestDropAtLevel0(t *testing.T) {
	w := begin(t, 2)
	w.add(1)
	w.add(-1, 2)
	w.add(2)
	if w.propagate() != -1 {
		w.fail("conflict")
	}
	w.decide(2)
	w.back(0)
	other := 2
	if w.p.Reason(2) == 2 {
		other = 1
	}
	if w.drop(0) || w.drop(3-other) || !w.drop(other) {
		w.fail("Reasons are 0 and %d", 3-other)
	}
}

// TestDropConflict: what was in the way is gone, and the rest follows.
func TestDropConflict(t *testing.T) {
	w := begin(t, 5)
	w.add(-1, 2)
	w.add(-1, -2)
	w.add(-1, 3)
	w.add(-3, 4)
	w.add(5)
	w.decide(1)
	id := w.propagate()
	if id == -1 || !w.drop(id) || w.propagate() != -1 || w.value(4) != api.True || w.value(5) != api.True {
		w.fail("it goes on")
	}
	empty, _ := w.add()
	for range 3 {
		if w.propagate() != empty {
			w.fail("a clause of nothing is false")
		}
	}
	w.back(0)
	if w.propagate() != empty || !w.drop(empty) || w.propagate() != -1 || w.value(5) != api.True {
		w.fail("now it is not there")
	}
}

func TestDecide(t *testing.T) {
	w := begin(t, 3)
	w.add(-1, -3)
	for i, x := range []struct {
		l    int
		want bool
	}{
		{0, false}, {4, false}, {-4, false}, {math.MinInt, false}, {math.MaxInt, false},
		{1, true}, {1, false}, {-1, false}, {-2, true}, {2, false}, {-2, false},
	} {
		if w.decide(x.l) != x.want {
			t.Errorf("%d: Decide(%d) = %t", i, x.l, !x.want)
		}
	}
	if w.p.Level() != 2 || w.p.LevelOf(1) != 1 || w.p.LevelOf(2) != 2 || w.p.LevelOf(3) != -1 || w.p.LevelOf(-2) != -1 {
		t.Error("levels")
	}
	if w.propagate() != -1 || w.decide(3) || w.decide(-3) || w.p.LevelOf(3) != 2 { // of the level on which it was asked for
		t.Error("-3 follows")
	}
}

func TestBack(t *testing.T) {
	for _, x := range []struct{ to, want int }{
		{0, 0}, {1, 1}, {2, 2}, {3, 3}, {4, 3}, {99, 3}, {math.MaxInt, 3}, {-1, 0}, {-7, 0}, {math.MinInt, 0},
	} {
		w := begin(t, 9)
		w.add(9)
		w.add(-1, 4)
		w.add(-2, -5)
		w.add(5, -3, 6)
		w.propagate()
		for v := 1; v <= 3; v++ {
			w.decide(v)
			w.propagate()
		}
		w.back(x.to)
		if w.p.Level() != x.want || len(w.p.Trail()) != 1+2*x.want || w.value(9) != api.True {
			t.Errorf("Back(%d): Level %d, %v", x.to, w.p.Level(), w.p.Trail())
		}
		if w.propagate() != -1 || len(w.p.Trail()) != 1+2*x.want {
			t.Errorf("Back(%d), and more follows: %v", x.to, w.p.Trail())
		}
		for v := 3; v > w.p.Level(); v-- { // another way down
			w.decide(-v)
			w.propagate()
			w.back(w.p.Level() - 1)
		}
	}
}

// TestLate: clauses that came, or were looked at, on a level above the one on
// which all but one of their literals were false: what follows out of them is
// Unknown below it, and follows again.
func TestLate(t *testing.T) {
	for _, c := range [][]int{{3}, {-1, 3}, {3, -1}, {-1, 3, -2}, {-2, -1, 3}} {
		for _, levels := range [][]int{{0}, {1}, {2}, {3}, {2, 1}, {3, 1}, {2, 0}, {3, 2, 1, 0}} {
			w := begin(t, 9)
			for _, l := range []int{1, 2, 4, 5} {
				w.decide(l)
				w.propagate()
			}
			w.add(c...)
			w.add(-3, 6)
			if w.propagate() != -1 || w.p.LevelOf(3) != 4 || w.p.LevelOf(6) != 4 {
				w.fail("of the level on which it was asked for")
			}
			for _, level := range levels {
				w.back(level)
				w.propagate()
			}
			level := levels[len(levels)-1]
			follows := len(c) == 1 || level >= 2 || level == 1 && !slices.Contains(c, -2)
			if (w.value(6) == api.True) != follows {
				w.fail("on level %d: %d", level, w.value(6))
			}
			if w.decide(-6) == follows {
				w.fail("6 is known")
			}
			w.decide(1)
			w.decide(2)
			if (w.propagate() == -1) != follows {
				w.fail("6, or its opposite and 1 and 2")
			}
		}
	}
}

// TestLateTrue: it was true already, above the level of all the others.
func TestLateTrue(t *testing.T) {
	for _, c := range [][]int{{3}, {-1, 3}, {3, -1, -2}, {-2, 3}} {
		w := begin(t, 4)
		w.decide(1)
		w.decide(2)
		w.propagate()
		w.decide(3)
		w.add(c...)
		if w.propagate() != -1 || w.p.Reason(3) != -1 {
			w.fail("it was decided")
		}
		w.back(2)
		if w.value(3) != api.Unknown || w.propagate() != -1 || w.p.Reason(3) != 0 || w.p.LevelOf(3) != 2 {
			w.fail("it follows")
		}
		w.back(1)
		w.decide(-3)
		if (w.propagate() == -1) != slices.Contains(c, -2) {
			w.fail("-3, on level 2")
		}
	}
}

// TestDecideMore: several decisions ahead of what follows out of the first.
func TestDecideMore(t *testing.T) {
	w := begin(t, 6)
	w.add(-1, 4)
	w.add(-1, -2, 5)
	w.add(-4, -2, -3, 6)
	for _, l := range []int{1, 2, 3} {
		w.decide(l)
	}
	if w.propagate() != -1 || w.p.LevelOf(4) != 3 || w.p.LevelOf(5) != 3 || w.p.LevelOf(6) != 3 {
		w.fail("all follow, on the last")
	}
	w.back(2)
	if w.propagate() != -1 || w.p.LevelOf(4) != 2 || w.p.LevelOf(5) != 2 || w.p.LevelOf(6) != -1 {
		w.fail("two follow, on level 2")
	}
	w.back(1)
	if w.propagate() != -1 || w.p.LevelOf(4) != 1 || w.p.LevelOf(5) != -1 {
		w.fail("one follows, on level 1")
	}
	w.decide(-6)
	w.decide(3)
	w.propagate()
	if w.value(2) != api.False || w.p.LevelOf(2) != 3 {
		w.fail("-2 follows, on level 3")
	}
}

// TestMemory: what is handed in or out is nobody else's.
func TestMemory(t *testing.T) {
	w := begin(t, 4)
	in := []int{2, -1, 3, 4}
	w.add(in[:2]...)
	w.add(-1, 3)
	if !slices.Equal(in, []int{2, -1, 3, 4}) {
		t.Error("handed in:", in)
	}
	clear(in)
	w.decide(1)
	w.propagate()
	for range 2 {
		for _, out := range [][]int{w.p.Clause(0), w.p.Clause(0), w.p.Clause(1), w.p.Trail(), w.p.Trail()} {
			clear(append(out, 7, 7, 7)[:cap(out)])
			clear(out[:cap(out)])
		}
		w.look()
		w.decide(4)
	}
	w.back(0)
	w.look()
	a, b := prop.New(2), prop.New(2)
	a.Add(1)
	a.Propagate()
	if b.Value(1) != api.Unknown || len(b.Clause(0)) > 0 || b.Propagate() != -1 {
		t.Error("another one's")
	}
}

// TestShort: all rows of a few calls on a few clauses.
func TestShort(t *testing.T) {
	calls := []func(w *witness){
		func(w *witness) { w.add(-1, 2) },
		func(w *witness) { w.add(-1, -2, 3) },
		func(w *witness) { w.add(-3, -1) },
		func(w *witness) { w.add(3) },
		func(w *witness) { w.decide(1) },
		func(w *witness) { w.decide(2) },
		func(w *witness) { w.decide(-3) },
		func(w *witness) { w.drop(0) },
		func(w *witness) { w.back(0) },
		func(w *witness) { w.back(1) },
		func(w *witness) { w.propagate() },
	}
	const long = 5
	rows := 1
	for range long {
		rows *= len(calls)
	}
	for row := range rows {
		w := begin(t, 3)
		for left, i := row, 0; i < long; i, left = i+1, left/len(calls) {
			calls[left%len(calls)](w)
		}
		w.propagate()
		w.propagate()
	}
}

// TestAny: long rows of calls, at random.
func TestAny(t *testing.T) {
	for seed := range 6000 {
		r := rand.New(rand.NewSource(int64(seed)))
		w := begin(t, 1+r.Intn(9))
		long := 1 + r.Intn(4)
		eager := r.Intn(3)
		for range 60 {
			switch r.Intn(10) {
			case 0, 1, 2:
				w.add(someClause(r, w.vars, r.Intn(long+1)+r.Intn(2))...)
			case 3, 4, 5:
				w.decide(someLiteral(r, w.vars))
			case 6:
				w.back(r.Intn(w.p.Level()+2) - 1)
			case 7:
				w.drop(r.Intn(len(w.clauses)+2) - 1)
			case 8:
				w.propagate()
			default:
				if r.Intn(10) == 0 {
					w.grow(w.vars + r.Intn(3) - 1)
				}
			}
			if eager > r.Intn(3) {
				w.resolve(r)
			}
		}
		w.propagate()
	}
}

// resolve calls Propagate, and mostly does something about a conflict.
func (w *witness) resolve(r *rand.Rand) {
	w.t.Helper()
	if id := w.propagate(); id != -1 {
		switch r.Intn(4) {
		case 0:
			w.drop(id)
		case 1, 2:
			w.back(w.p.Level() - 1 - r.Intn(2))
		}
	}
}

// someLiteral is any, and now and then none.
func someLiteral(r *rand.Rand, vars int) int {
	l := 1 + r.Intn(vars)
	if r.Intn(50) == 0 {
		l = (vars + 1) * r.Intn(2)
	}
	if r.Intn(2) == 0 {
		return -l
	}
	return l
}

// someClause is of so many literals.
func someClause(r *rand.Rand, vars, long int) []int {
	var c []int
	for range long {
		c = append(c, someLiteral(r, vars))
	}
	return c
}

// TestSearch: by Decide, Propagate and Back alone it is found out whether all of a
// formula can be true, as by all values one by one.
func TestSearch(t *testing.T) {
	for seed := range 400 {
		r := rand.New(rand.NewSource(int64(seed)))
		f := api.CNF{Vars: 4 + r.Intn(7)}
		p := prop.New(f.Vars)
		for range f.Vars * (3 + r.Intn(4)) {
			c, says := lits.Norm(someClause(r, f.Vars, 3)...)
			if _, ok := p.Add(c...); ok {
				f.Clauses = append(f.Clauses, c)
			} else if says && lits.Check(api.CNF{Vars: f.Vars, Clauses: [][]int{c}}) == nil {
				t.Fatal(seed, c)
			}
		}
		_, want, err := slow.Sat(f)
		if got := search(p); got != want || err != nil {
			t.Fatal(seed, got, want, err, f)
		}
	}
}

// search tells whether all can be true from here on.
func search(p *prop.Prop) bool {
	if p.Propagate() != -1 {
		return false
	}
	level := p.Level()
	for v := 1; ; v++ {
		if p.Decide(v) {
			if search(p) {
				return true
			}
			p.Back(level)
			p.Decide(-v)
			return search(p)
		}
		if p.LevelOf(v) == -1 {
			return true // there is no such variable: all are known
		}
	}
}

// TestMany: as many variables as may be, again and again: no call takes much longer
// than what it changes.
func TestMany(t *testing.T) {
	p := prop.New(api.MaxVars)
	chain := make([]int, api.MaxVars)
	for v := 1; v < api.MaxVars; v++ {
		chain[v], _ = p.Add(-v, v+1)
		p.Add(v, v+1, -api.MaxVars)
		p.Add(-1, -api.MaxVars, v+1)
	}
	last, _ := p.Add(1, 2)
	for v := 1; v < 500; v++ {
		if !p.Decide(1) || p.Propagate() != -1 || len(p.Trail()) != api.MaxVars || p.LevelOf(api.MaxVars) != 1 {
			t.Fatal(v, "all follow")
		}
		p.Back(0)
		if p.Propagate() != -1 || len(p.Trail()) != 0 {
			t.Fatal(v, "Back")
		}
		if !p.Drop(chain[v]) || p.Drop(chain[v]) || !p.Decide(1) || p.Propagate() != -1 || len(p.Trail()) != v {
			t.Fatal(v, "Drop: that many follow")
		}
		if id, ok := p.Add(v+1, -v); !ok || id != last+v {
			t.Fatal(v, "Add", id, last)
		}
		if p.Propagate() != -1 || len(p.Trail()) != api.MaxVars {
			t.Fatal(v, "all follow again")
		}
		p.Back(0)
	}
}
