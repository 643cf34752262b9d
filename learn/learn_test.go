package learn_test

import (
	"fmt"
	"math"
	"math/rand"
	"slices"
	"testing"

	"skolem/api"
	"skolem/learn"
	"skolem/lits"
	"skolem/prop"
	"skolem/slow"
)

// ends is numbers at the ends of what an int may be.
var ends = []int{math.MinInt, math.MinInt + 1, -1 << 62, math.MaxInt - 1, math.MaxInt}

// witness makes calls of a Prop, and knows the clauses that are there; so it can
// hold what is learnt of it against a plain reading of the chapter.
type witness struct {
	t       *testing.T
	p       *prop.Prop
	vars    int
	clauses map[int][]int // by id
	next    int           // the next id
	calls   []string
}

// begin is a witness of a new Prop with these clauses.
func begin(t *testing.T, vars int, clauses ...[]int) *witness {
	w := &witness{t: t, p: prop.New(vars), vars: vars, clauses: map[int][]int{}}
	for _, c := range clauses {
		w.add(c...)
	}
	return w
}

// fail tells what is wrong, and all calls up to here.
func (w *witness) fail(format string, a ...any) {
	w.t.Helper()
	w.t.Fatalf(format+"; %v", append(a, w.calls)...)
}

// call keeps what is called, to be told if something is wrong.
func (w *witness) call(name string, with ...any) {
	w.calls = append(w.calls, name+fmt.Sprint(with...))
}

// add calls Add.
func (w *witness) add(c ...int) int {
	w.call("Add", c)
	id, ok := w.p.Add(c...)
	if ok {
		w.clauses[id] = slices.Clone(c)
		w.next = id + 1
	}
	return id
}

// drop calls Drop.
func (w *witness) drop(id int) {
	w.call("Drop", id)
	if w.p.Drop(id) {
		delete(w.clauses, id)
	}
}

// decide decides these one after the other, each after a Propagate, up to a
// conflict, which is told.
func (w *witness) decide(l ...int) int {
	id := w.propagate()
	for i := 0; i < len(l) && id == -1; i++ {
		w.call("Decide", l[i])
		w.p.Decide(l[i])
		id = w.propagate()
	}
	return id
}

// propagate calls Propagate.
func (w *witness) propagate() int {
	w.call("Propagate")
	return w.p.Propagate()
}

// back calls Back.
func (w *witness) back(level int) {
	w.call("Back", level)
	w.p.Back(level)
}

// facts is all that the Prop tells, number by number.
func (w *witness) facts() []int {
	out := append([]int{w.p.Level()}, w.p.Trail()...)
	for v := 1; v <= w.vars; v++ {
		out = append(out, w.p.Value(v), w.p.LevelOf(v), w.p.Reason(v))
	}
	for id := range w.next {
		out = append(append(out, 0), w.p.Clause(id)...)
	}
	return out
}

// changed tells whether the Prop tells anything else than these facts.
func (w *witness) changed(facts []int) bool { return !slices.Equal(w.facts(), facts) }

// level is the level of l's variable.
func (w *witness) level(l int) int { return w.p.LevelOf(lits.Var(l)) }

// allFalse tells whether all of c is false.
func (w *witness) allFalse(c []int) bool {
	return !slices.ContainsFunc(c, func(l int) bool { return w.p.Value(l) != api.False })
}

// closure is what follows from start by what Propagate does, by literal; false: a
// clause's literals are all false then, or two are opposites.
func (w *witness) closure(start []int) (map[int]bool, bool) {
	is := map[int]bool{}
	for _, l := range start {
		is[l] = true
		if is[-l] {
			return nil, false
		}
	}
	for more := true; more; {
		more = false
		for _, c := range w.clauses {
			rest := slices.DeleteFunc(slices.Clone(c), func(l int) bool { return is[-l] })
			rest = slices.Compact(slices.Sorted(slices.Values(rest)))
			if len(rest) == 0 {
				return nil, false
			}
			if len(rest) == 1 && !is[rest[0]] {
				is[rest[0]], more = true, true
			}
		}
	}
	return is, true
}

// follows tells whether c follows by what Propagate does: with all its literals
// false it comes to a conflict.
func (w *witness) follows(c []int) bool {
	_, is := w.closure(opposites(c))
	return !is
}

// opposites is c's.
func opposites(c []int) []int {
	var out []int
	for _, l := range c {
		out = append(out, -l)
	}
	return out
}

// once tells whether nothing is twice in c.
func once(c []int) bool {
	c = slices.Sorted(slices.Values(c))
	return len(slices.Compact(slices.Clone(c))) == len(c)
}

// isLesson tells whether From is to say true: a clause of nothing, of which there
// can be no first literal, is asked elsewhere.
func (w *witness) isLesson(id int) bool {
	c, is := w.clauses[id]
	return is && w.p.Level() > 0 && w.allFalse(c)
}

// from calls From, and holds its answer against the chapter.
func (w *witness) from(id int) (learn.Lesson, bool) {
	w.t.Helper()
	facts := w.facts()
	l, ok := learn.From(w.p, id)
	again, okAgain := learn.From(w.p, id)
	if w.changed(facts) {
		w.fail("From changed the Prop")
	}
	if ok != okAgain || !same(l, again) {
		w.fail("From(%d) = %v, and then %v", id, l, again)
	}
	if ok != w.isLesson(id) {
		w.fail("From(%d) = %t", id, ok)
	}
	if !ok {
		if len(l.Clause) != 0 || l.Back != 0 || l.Score != 0 || len(l.Seen) != 0 {
			w.fail("From(%d) = %v, false", id, l)
		}
		return l, false
	}
	w.lesson(w.clauses[id], l)
	return l, true
}

// same tells whether a and b are the same Lesson.
func same(a, b learn.Lesson) bool {
	return slices.Equal(a.Clause, b.Clause) && a.Back == b.Back && a.Score == b.Score && slices.Equal(a.Seen, b.Seen)
}

// lesson holds a Lesson of the clause c against the chapter.
func (w *witness) lesson(c []int, l learn.Lesson) {
	w.t.Helper()
	if len(l.Clause) == 0 || !once(l.Clause) || !w.allFalse(l.Clause) || !w.follows(l.Clause) {
		w.fail("of %v: %v", c, l)
	}
	top := w.greatest(c)
	if w.level(l.Clause[0]) != top {
		w.fail("of %v: %v: the first is of level %d, not %d", c, l, w.level(l.Clause[0]), top)
	}
	scores := map[int]bool{}
	for i, m := range l.Clause {
		scores[w.level(m)] = true
		if i > 0 && w.level(m) >= top {
			w.fail("of %v: %v: one more of level %d", c, l, w.level(m))
		}
	}
	if l.Back != w.greatest(l.Clause[1:]) || l.Score != len(scores) {
		w.fail("of %v: %v", c, l)
	}
	if !once(l.Seen) || slices.ContainsFunc(l.Seen, func(v int) bool { return v < 1 || w.level(v) < 0 }) {
		w.fail("of %v: %v: Seen", c, l)
	}
	for _, m := range l.Clause {
		if !slices.Contains(l.Seen, lits.Var(m)) {
			w.fail("of %v: %v: %d is not Seen", c, l, m)
		}
	}
}

// greatest is the greatest level of c's literals; 0, if there is none.
func (w *witness) greatest(c []int) int {
	level := 0
	for _, l := range c {
		level = max(level, w.level(l))
	}
	return level
}

// shorten calls Shorten, and holds its answer against the chapter.
func (w *witness) shorten(c ...int) []int {
	w.t.Helper()
	facts, was := w.facts(), slices.Clone(c)
	short := learn.Shorten(w.p, c)
	if w.changed(facts) || !slices.Equal(c, was) {
		w.fail("Shorten changed the Prop, or %v", was)
	}
	if !slices.Equal(short, learn.Shorten(w.p, c)) {
		w.fail("Shorten(%v) is one thing, and then another", c)
	}
	if len(short) > len(c) || slices.ContainsFunc(short, func(l int) bool { return !slices.Contains(c, l) }) {
		w.fail("Shorten(%v) = %v", c, short)
	}
	if len(c) > 0 && (len(short) == 0 || !slices.Contains(short, c[0])) {
		w.fail("Shorten(%v) = %v, without the first", c, short)
	}
	if w.follows(c) && w.allFalse(c) && !w.follows(short) {
		w.fail("Shorten(%v) = %v, which does not follow", c, short)
	}
	return short
}

// final calls Final of a literal that is false, and holds its answer against the
// chapter.
func (w *witness) final(l int) []int {
	w.t.Helper()
	facts := w.facts()
	decided := learn.Final(w.p, l)
	if w.changed(facts) {
		w.fail("Final changed the Prop")
	}
	if !slices.Equal(decided, learn.Final(w.p, l)) || !once(decided) {
		w.fail("Final(%d) = %v", l, decided)
	}
	for _, d := range decided {
		if w.p.Value(d) != api.True || w.p.Reason(lits.Var(d)) != -1 || w.level(d) < 1 {
			w.fail("Final(%d) = %v: %d was not decided", l, decided, d)
		}
	}
	if is, ok := w.closure(decided); ok && !is[-l] {
		w.fail("Final(%d) = %v, from which it does not follow", l, decided)
	}
	if w.level(l) == 0 && len(decided) > 0 {
		w.fail("Final(%d) = %v: of level 0 there is nothing", l, decided)
	}
	if w.level(l) > 0 && w.p.Reason(lits.Var(l)) == -1 && !slices.Equal(decided, []int{-l}) {
		w.fail("Final(%d) = %v: its opposite was decided", l, decided)
	}
	return decided
}

// sorted is c by number.
func sorted(c []int) []int { return slices.Sorted(slices.Values(c)) }

// TestFromFalse: no such clause, or Level is 0, or it is not all false.
func TestFromFalse(t *testing.T) {
	if l, ok := learn.From(prop.New(1), -1); ok || l.Clause != nil {
		t.Error("the example")
	}
	w := begin(t, 4, []int{-1, 2}, []int{-1, -2}, []int{-3, 4}, []int{3, 4}, []int{-4, 3, 1})
	if w.propagate() != -1 {
		w.fail("a conflict")
	}
	none := append([]int{-1, -2, 5, 6, 99}, ends...)
	for _, id := range append(none, 0, 1, 2, 3, 4) { // Level 0, nothing is true
		w.from(id)
	}
	if id := w.decide(3); id != -1 || w.p.Value(4) != api.True {
		w.fail("3, and 4")
	}
	for _, id := range append(none, 0, 1, 2, 3, 4) { // all true, or one Unknown
		w.from(id)
	}
	conflict := w.decide(1)
	if _, ok := w.from(conflict); !ok || conflict != 0 && conflict != 1 {
		w.fail("a conflict")
	}
	for _, id := range append(none, 1-conflict, 2, 3, 4) { // the other of 0 and 1 has a true one
		if _, ok := w.from(id); ok {
			w.fail("From(%d)", id)
		}
	}
	w.drop(conflict)
	if _, ok := w.from(conflict); ok { // it was there
		w.fail("From(%d)", conflict)
	}
}

// TestFromLevel0: with nothing decided there is nothing to learn.
func TestFromLevel0(t *testing.T) {
	w := begin(t, 2, []int{1}, []int{-1, 2}, []int{-1, -2})
	id := w.propagate()
	if id == -1 {
		w.fail("no conflict")
	}
	for id := range 3 {
		w.from(id)
	}
	empty := w.add()
	w.from(empty)
	w = begin(t, 2, []int{1, 2})
	w.decide(-1)
	w.add(-2)
	id = w.propagate()
	if _, ok := w.from(id); !ok {
		w.fail("on level 1")
	}
	w.back(0)
	if _, ok := w.from(id); ok {
		w.fail("on level 0")
	}
}

// TestFromNothing: a clause of nothing has no literal that could be the first, so
// that there is nothing in its Lesson, whatever is said.
func TestFromNothing(t *testing.T) {
	p := prop.New(2)
	p.Decide(1)
	p.Decide(2)
	id, _ := p.Add()
	if p.Propagate() != id {
		t.Fatal("no conflict")
	}
	if l, _ := learn.From(p, id); len(l.Clause) != 0 || l.Back != 0 || l.Score != 0 || len(l.Seen) != 0 {
		t.Error(l)
	}
}

// TestFrom: conflicts of which just one clause can be learnt.
func TestFrom(t *testing.T) {
	for i, x := range []struct {
		clauses     [][]int
		decide      []int
		first       int
		others      []int
		back, score int
	}{
		{[][]int{{-1, 2}, {-1, -2}}, []int{1}, -1, nil, 0, 1},
		{[][]int{{1, 2}, {1, -2}}, []int{3, 4, -1}, 1, nil, 0, 1},
		{[][]int{{-1, -2, 3}, {-1, -2, -3}}, []int{1, 2}, -2, []int{-1}, 1, 2},
		{[][]int{{-1, -2, 3}, {-1, -2, -3}}, []int{4, 2, 5, 1}, -1, []int{-2}, 2, 2},
		{[][]int{{-1, -2, -4, 3}, {-1, -2, -4, -3}}, []int{4, 2, 5, 1}, -1, []int{-4, -2}, 2, 3},
		{[][]int{{-1, 2}, {-3, -2, 4}, {-3, -1, -4}}, []int{3, 1}, -1, []int{-3}, 1, 2},
		{[][]int{{-2, 3}, {-1, -2, 4}, {-3, -4}}, []int{1, 2}, -2, []int{-1}, 1, 2}, // -1 is met behind the conflict, in a Reason
		{[][]int{{-1, 2}, {-1, 3}, {-1, 4}, {-2, -3, -4}}, []int{5, 1}, -1, nil, 0, 1},
		{[][]int{{-1, 2}, {-1, 3}, {-2, 4}, {-3, 5}, {-4, -5}}, []int{1}, -1, nil, 0, 1},
	} {
		w := begin(t, 5, x.clauses...)
		l, ok := w.from(w.decide(x.decide...))
		if !ok || l.Clause[0] != x.first || !slices.Equal(sorted(l.Clause[1:]), x.others) || l.Back != x.back || l.Score != x.score {
			t.Errorf("%d: %v, %t", i, l, ok)
		}
	}
}

// TestFromReasons: what is learnt is less than what was decided, where one of the
// greatest level stands between.
func TestFromReasons(t *testing.T) {
	w := begin(t, 9, []int{-1, 2}, []int{-3, 4}, []int{-4, -2, 5}, []int{-5, 6}, []int{-5, -1, 7}, []int{-6, -7})
	l, ok := w.from(w.decide(8, 1, 9, 3))
	if !ok || l.Back != 2 || l.Score != 2 {
		w.fail("%v", l)
	}
	for _, v := range []int{6, 7} {
		if !slices.Contains(l.Seen, v) {
			w.fail("%d is not Seen in %v", v, l)
		}
	}
	for _, v := range []int{8, 9} {
		if slices.Contains(l.Seen, v) {
			w.fail("%d is Seen in %v", v, l)
		}
	}
}

// TestFromBelow: the conflict's literals are all of lower levels than Level.
func TestFromBelow(t *testing.T) {
	for i, x := range []struct {
		add    []int
		top    int
		clause []int // nil: several may be
	}{
		{[]int{-2}, 1, []int{-2}}, {[]int{-1}, 1, []int{-1}}, {[]int{-1, -2}, 1, nil},
		{[]int{-3}, 2, []int{-3}}, {[]int{-1, -3}, 2, nil}, {[]int{-2, -4, -3}, 2, nil}, {[]int{-3, -4}, 2, nil},
		{[]int{-5, -1}, 3, []int{-5, -1}}, {[]int{-6, -3}, 4, []int{-6, -3}}, {[]int{-6, -5}, 4, []int{-6, -5}},
	} {
		w := begin(t, 6, []int{-1, 2}, []int{-2, -3, 4})
		w.decide(1, 3, 5, 6)
		w.add(x.add...)
		l, ok := w.from(w.propagate())
		if !ok || w.level(l.Clause[0]) != x.top || x.clause != nil && !slices.Equal(l.Clause, x.clause) {
			t.Errorf("%d: %v, %t", i, l, ok)
		}
	}
}

// TestFromBelowAll: all of them of level 0, where nothing was decided: one is left.
func TestFromBelowAll(t *testing.T) {
	for _, c := range [][]int{{-1}, {-2}, {-3}, {-1, -2}, {-3, -1}, {-3, -2, -1}, {-4}, {-4, -3}} {
		w := begin(t, 6, []int{1}, []int{-1, 2}, []int{-2, -1, 3}, []int{4})
		w.decide(5, 6)
		w.add(c...)
		l, ok := w.from(w.propagate())
		if !ok || len(l.Clause) != 1 || l.Back != 0 || l.Score != 1 {
			t.Errorf("of %v: %v, %t", c, l, ok)
		}
	}
}

// TestFromLate: what follows has the Level on which it was asked for, even where
// the others of its Reason are of lower ones; the decision of that level has no
// part in the conflict then.
func TestFromLate(t *testing.T) {
	w := begin(t, 6)
	w.decide(1, 2)
	w.add(-1, 3)
	w.add(-1, 4)
	w.add(-3, -4)
	l, ok := w.from(w.propagate())
	if !ok || w.level(l.Clause[0]) != 2 || l.Back != 1 && len(l.Clause) > 1 || slices.Contains(l.Clause, -2) {
		w.fail("%v, %t", l, ok)
	}
	w = begin(t, 6)
	w.decide(1, 2)
	for _, l := range []int{3, 4} { // two decisions ahead of what follows from the first
		w.p.Decide(l)
	}
	w.add(-1, 5)
	w.add(-5, 6)
	w.add(-6, -5, -3)
	l, ok = w.from(w.propagate())
	if !ok || slices.Contains(l.Clause, -4) || slices.Contains(l.Clause, -2) {
		w.fail("%v, %t", l, ok)
	}
}

// TestFromHelps: after Back the first alone is Unknown, and so its opposite can be
// no more.
func TestFromHelps(t *testing.T) {
	w := begin(t, 9, []int{-1, 2}, []int{-3, 4}, []int{-4, -2, 5}, []int{-5, 6}, []int{-5, -1, 7}, []int{-6, -7})
	l, _ := w.from(w.decide(8, 1, 9, 3))
	w.back(l.Back)
	id := w.add(l.Clause...)
	if w.p.Level() != 2 || w.p.Value(l.Clause[0]) != api.Unknown || !w.allFalse(l.Clause[1:]) {
		w.fail("%v on level %d", l, w.p.Level())
	}
	if w.propagate() != -1 || w.p.Value(l.Clause[0]) != api.True || w.p.Reason(lits.Var(l.Clause[0])) != id {
		w.fail("%v is not true", l.Clause[0])
	}
}

// TestShorten: of what follows from a part of it the rest may go.
func TestShorten(t *testing.T) {
	clauses := [][]int{{-1, 2}, {-2, -1, 3}, {9}, {-9, 8}, {-4, -1, 5}, {-4, -2, -5}, {-4, -3, 6}, {-4, -3, -6}}
	for i, x := range []struct {
		c, want []int // want: nil: several may be
	}{
		{nil, []int{}}, {[]int{-4}, []int{-4}},
		{[]int{-4, -1}, []int{-4, -1}}, {[]int{-4, -3}, []int{-4, -3}},
		{[]int{-4, -2, -1}, []int{-4, -1}}, {[]int{-4, -1, -2}, []int{-4, -1}},
		{[]int{-4, -1, -2, -3}, []int{-4, -1}}, {[]int{-4, -3, -2, -1}, []int{-4, -1}},
		{[]int{-1, -4, -2}, []int{-1, -4}}, {[]int{-2, -4, -1}, []int{-2, -4, -1}}, {[]int{-3, -1, -2, -4}, nil},
		{[]int{-4, -9, -3}, []int{-4, -3}}, {[]int{-9, -3, -4}, []int{-9, -3, -4}},
		{[]int{-1, -4, -9}, []int{-1, -4}}, {[]int{-8, -9, -1, -4}, []int{-8, -1, -4}}, {[]int{-4, -3, -8, -9}, []int{-4, -3}},
		{[]int{-4, -3, -7}, []int{-4, -3, -7}}, {[]int{-7, -4, -3}, []int{-7, -4, -3}},
	} {
		w := begin(t, 9, clauses...)
		if w.decide(1, 7, 4) == -1 {
			w.fail("no conflict")
		}
		got := w.shorten(x.c...)
		if x.want != nil && !lits.Same(got, x.want) {
			t.Errorf("%d: Shorten(%v) = %v", i, x.c, got)
		}
	}
}

// TestShortenTogether: two that follow from one another may not both go.
func TestShortenTogether(t *testing.T) {
	clauses := [][]int{{-1, 2}, {1, -2}, {-4, -1, 3}, {-4, -2, -3}}
	for _, decided := range []int{1, 2} {
		w := begin(t, 5, clauses...)
		if w.decide(decided, 5, 4) == -1 {
			w.fail("no conflict")
		}
		for _, c := range [][]int{{-4, -1, -2}, {-4, -2, -1}, {-1, -2, -4}, {-2, -1, -4}} {
			if got := w.shorten(c...); !slices.Contains(got, -4) || !slices.Contains(got, -decided) {
				w.fail("Shorten(%v) = %v", c, got)
			}
		}
	}
}

// TestShortenFar: some that are neither in c nor follow from it stand behind some
// that do, in several Reasons.
func TestShortenFar(t *testing.T) {
	clauses := [][]int{{-1, 2}, {-2, 3}, {-3, -2, 4}, {-3, -6, 7}, {-7, -4, 8}, {-8, -4, -9, 10}, {-8, -4, -9, -10}}
	w := begin(t, 10, clauses...)
	if w.decide(1, 6, 9) == -1 {
		w.fail("no conflict")
	}
	for _, c := range [][]int{{-9, -8, -4}, {-9, -4, -8, -7}, {-9, -8, -7, -4, -3, -2, -1}, {-9, -8, -6, -4}, {-9, -8, -4, -6, -3}, {-9, -8, -4, -1}} {
		w.shorten(c...)
	}
}

// TestShortenAnything: what does not follow, is not all false, or is no literal, is
// some of it all the same, and the first.
func TestShortenAnything(t *testing.T) {
	w := begin(t, 6, []int{-1, 2}, []int{-3, 4}, []int{-4, -3, -2})
	if w.decide(1, 3) == -1 {
		w.fail("no conflict")
	}
	some := append([]int{0, 1, -1, 2, -2, 3, -3, 4, -4, 5, -5, 6, -6, 7, -7}, ends...)
	for _, a := range some {
		for _, b := range some {
			for _, c := range [][]int{{a}, {a, b}, {a, b, a}, {a, -1, b}, {-2, a, b, -1}} {
				short := learn.Shorten(w.p, c)
				if !slices.Contains(short, c[0]) || slices.ContainsFunc(short, func(l int) bool { return !slices.Contains(c, l) }) {
					t.Errorf("Shorten(%v) = %v", c, short)
				}
			}
		}
	}
	if got := learn.Shorten(prop.New(0), nil); len(got) != 0 {
		t.Error(got)
	}
	if got := learn.Shorten(prop.New(0), []int{1, 2}); len(got) == 0 || got[0] != 1 {
		t.Error(got)
	}
}

func TestFinal(t *testing.T) {
	clauses := [][]int{{9}, {-9, 8}, {-1, 2}, {-2, -3, 4}, {-4, -9, -8, 5}, {-5, -3, -1, -6}, {-7, -8}}
	for i, x := range []struct {
		decide []int
		l      int
		want   []int // by number
	}{
		{nil, -9, nil}, {nil, -8, nil}, {nil, 7, nil},
		{[]int{1}, -1, []int{1}}, {[]int{1}, -2, []int{1}}, {[]int{1}, 7, nil},
		{[]int{1, 3}, -1, []int{1}}, {[]int{1, 3}, -3, []int{3}}, {[]int{1, 3}, -2, []int{1}},
		{[]int{1, 3}, -4, []int{1, 3}}, {[]int{3, 1}, -5, []int{1, 3}}, {[]int{3, 1}, 6, []int{1, 3}},
		{[]int{2, 3}, -4, []int{2, 3}}, {[]int{2, 3, 6}, 1, []int{2, 3, 6}}, {[]int{6, 3, 2}, 1, []int{2, 3, 6}},
		{[]int{-6, 2, -1, 3}, -5, []int{2, 3}}, {[]int{-6, 2, -1, 3}, 6, []int{-6}}, {[]int{-6, 2, -1, 3}, 1, []int{-1}},
		{[]int{4, 2}, -5, []int{4}}, {[]int{4, 5}, -5, []int{4}}, {[]int{-5}, 4, []int{-5}}, {[]int{-4, 3}, 2, []int{-4, 3}}, {[]int{-4, 3}, 1, []int{-4, 3}},
	} {
		w := begin(t, 9, clauses...)
		if w.decide(x.decide...) != -1 || w.p.Value(x.l) != api.False {
			t.Fatal(i, "it is not false")
		}
		if got := w.final(x.l); !slices.Equal(sorted(got), x.want) {
			t.Errorf("%d: Final(%d) = %v, want %v", i, x.l, got, x.want)
		}
	}
}

// TestFinalAnything: what is no literal, or Unknown, follows from nothing; what is
// true has no such answer, but gets one.
func TestFinalAnything(t *testing.T) {
	w := begin(t, 5, []int{-1, 2}, []int{5})
	w.decide(1, 3)
	for _, l := range append([]int{0, 4, -4, 6, -6, api.MaxVars + 1, -api.MaxVars - 1}, ends...) {
		if got := learn.Final(w.p, l); len(got) != 0 {
			t.Errorf("Final(%d) = %v", l, got)
		}
	}
	for _, l := range []int{1, 2, 3, 5} {
		learn.Final(w.p, l)
	}
	learn.Final(prop.New(0), 1)
}

// TestFinalConflict: beside a conflict too, and where several were decided at once.
func TestFinalConflict(t *testing.T) {
	w := begin(t, 7, []int{-1, 2}, []int{-3, -2, 4}, []int{-4, 5}, []int{-4, -5, -1}, []int{7})
	if w.decide(6, 1, 3) == -1 {
		w.fail("no conflict")
	}
	for _, l := range w.p.Trail() {
		if slices.Contains(w.final(-l), 6) && l != 6 {
			w.fail("Final(%d): from 6 nothing follows", l)
		}
	}
	w = begin(t, 7, []int{-1, -3, 2})
	for _, l := range []int{5, 1, 6, 3, 4} {
		w.p.Decide(l)
	}
	w.propagate()
	if got := w.final(-2); !slices.Equal(sorted(got), []int{1, 3}) {
		w.fail("Final(-2) = %v", got)
	}
}

// TestMemory: what is handed in is not kept, what lies behind its length is left
// alone, and each list handed out is one of its own.
func TestMemory(t *testing.T) {
	w := begin(t, 9, []int{-1, 2}, []int{-3, 4}, []int{-4, -2, 5}, []int{-5, 6}, []int{-5, -1, 7}, []int{-6, -7})
	id := w.decide(8, 1, 9, 3)
	facts := w.facts()
	l, _ := learn.From(w.p, id)
	want := fmt.Sprint(l)
	for _, list := range [][]int{l.Clause, l.Seen} {
		before := fmt.Sprint(l.Clause, l.Seen)
		for range 3 {
			more := append(list, 77)
			more[len(more)-1] = 78
		}
		if fmt.Sprint(l.Clause, l.Seen) != before {
			t.Error("the lists share their spare room")
		}
	}
	l.Clause[0] = 99
	if slices.Contains(l.Seen, 99) {
		t.Error("the lists share their memory")
	}
	l.Seen[0] = 99
	if again, _ := learn.From(w.p, id); fmt.Sprint(again) != want {
		t.Error("the next one shares it")
	}
	whole := []int{-5, -2, -1, 55, 66}
	short := learn.Shorten(w.p, whole[:3])
	for i := range short {
		short[i] = 99
	}
	short = append(short, 99, 99, 99)
	if !slices.Equal(whole, []int{-5, -2, -1, 55, 66}) {
		t.Error("Shorten writes into it:", whole)
	}
	if one := learn.Shorten(w.p, whole[:1]); &one[0] == &whole[0] {
		t.Error("Shorten hands out what was handed in")
	}
	decided := learn.Final(w.p, -5)
	kept := slices.Clone(decided)
	clear(decided)
	if !slices.Equal(learn.Final(w.p, -5), kept) || w.changed(facts) {
		t.Error("Final shares its memory")
	}
}

// TestAny: rows of calls, at random; whatever is so far, all that may be asked is.
func TestAny(t *testing.T) {
	lessons, shorter := 0, 0
	for seed := range 400 {
		r := rand.New(rand.NewSource(int64(seed)))
		w := begin(t, 3+r.Intn(7))
		long := 2 + r.Intn(3)
		for range 50 {
			switch r.Intn(10) {
			case 0, 1, 2, 3:
				w.add(someClause(r, w.vars, 1+r.Intn(long))...)
			case 4, 5, 6:
				l := someLiteral(r, w.vars)
				w.call("Decide", l)
				w.p.Decide(l)
			case 7:
				w.back(r.Intn(w.p.Level() + 1))
			case 8:
				w.drop(r.Intn(50))
			}
			if r.Intn(3) == 0 {
				continue
			}
			if id := w.propagate(); id != -1 {
				l, ok := w.from(id)
				if ok {
					lessons++
					shorter += len(l.Clause) - len(w.shorten(l.Clause...))
					w.shorten(w.clauses[id]...)
				}
				w.askAll(r)
			}
		}
	}
	if lessons < 1000 || shorter == 0 {
		t.Error(lessons, "lessons, shorter by", shorter)
	}
}

// askAll asks From of all clauses, Final of all that is false, and Shorten of some
// of that.
func (w *witness) askAll(r *rand.Rand) {
	w.t.Helper()
	var c []int
	for _, l := range w.p.Trail() {
		w.final(-l)
		if r.Intn(2) == 0 {
			c = append(c, -l)
		}
	}
	r.Shuffle(len(c), func(i, j int) { c[i], c[j] = c[j], c[i] })
	w.shorten(c...)
	for id := -1; id < 50; id++ {
		w.from(id)
	}
}

// someLiteral is any.
func someLiteral(r *rand.Rand, vars int) int {
	return (1 + r.Intn(vars)) * (1 - 2*r.Intn(2))
}

// someClause is of so many literals.
func someClause(r *rand.Rand, vars, long int) []int {
	var c []int
	for range long {
		c = append(c, someLiteral(r, vars))
	}
	return c
}

// TestSearch: by what conflicts teach it is found out whether all of a formula can
// be true, as by all values one by one; and by Final which decisions can't be.
func TestSearch(t *testing.T) {
	for seed := range 300 {
		r := rand.New(rand.NewSource(int64(seed)))
		f := api.CNF{Vars: 4 + r.Intn(7)}
		w := begin(t, f.Vars)
		for range f.Vars * (3 + r.Intn(3)) {
			c, says := lits.Norm(someClause(r, f.Vars, 3)...)
			if says {
				f.Clauses = append(f.Clauses, c)
				w.add(c...)
			}
		}
		_, want, err := slow.Sat(f)
		if got := w.search(r); got != want || err != nil {
			t.Fatal(seed, got, want, err, f)
		}
	}
}

// search tells whether all can be true.
func (w *witness) search(r *rand.Rand) bool {
	w.t.Helper()
	for {
		id := w.propagate()
		if id == -1 {
			if len(w.p.Trail()) == w.vars {
				return true
			}
			for !w.p.Decide(someLiteral(r, w.vars)) {
			}
			continue
		}
		if w.p.Level() == 0 {
			return false
		}
		l, _ := w.from(id)
		c := w.shorten(l.Clause...)
		w.back(l.Back)
		w.add(c...)
	}
}

// TestMany: as many variables as may be, in a chain of Reasons: no call takes much
// longer than what it goes through.
func TestMany(t *testing.T) {
	const n = api.MaxVars - 2
	p := prop.New(api.MaxVars)
	for v := 2; v <= n; v++ {
		p.Add(-1, -(v - 1), v)
		p.Add(-max(v-2, 1), -(v - 1), v)
	}
	p.Add(-n, -(n - 1), -api.MaxVars)
	p.Decide(api.MaxVars)
	p.Decide(n + 1)
	p.Decide(1)
	wrong := p.Propagate()
	if wrong == -1 {
		t.Fatal("no conflict")
	}
	c := make([]int, 0, n)
	for v := n; v > 0; v-- {
		c = append(c, -v)
	}
	for range 30 {
		l, ok := learn.From(p, wrong)
		if !ok || !slices.Equal(l.Clause, []int{-1, -api.MaxVars}) || l.Back != 1 || l.Score != 2 || len(l.Seen) < n {
			t.Fatal(len(l.Clause), l.Back, l.Score, len(l.Seen))
		}
		if got := learn.Shorten(p, c); !slices.Contains(got, -n) || !slices.Contains(got, -1) {
			t.Fatal("of", len(c), "literals", len(got))
		}
		learn.Shorten(p, []int{-api.MaxVars, -n, -1})
		if got := learn.Final(p, 1-n); !slices.Equal(got, []int{1}) {
			t.Fatal(got)
		}
	}
}
