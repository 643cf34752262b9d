package heap_test

import (
	"math"
	"math/rand"
	"slices"
	"testing"

	"skolem/api"
	"skolem/heap"
)

const most = 1 << 40 // the greatest score

// ends is numbers at the ends of what an int may be.
var ends = []int{math.MinInt, math.MinInt + 1, math.MinInt + 2, math.MaxInt - 1, math.MaxInt}

// all takes out all that is in h, each time with this tie.
func all(t *testing.T, h *heap.Heap, tie int) []int {
	t.Helper()
	var out []int
	for many := h.Len(); many > 0; many-- {
		v, ok := h.Pop(tie)
		if !ok || h.Has(v) || h.Len() != many-1 {
			t.Fatalf("Pop(%d) of %d: %d, %t; it is in: %t; %d are left", tie, many, v, ok, h.Has(v), h.Len())
		}
		out = append(out, v)
	}
	checkEmpty(t, h)
	return out
}

// checkEmpty looks whether h has nothing to give, whatever the tie.
func checkEmpty(t *testing.T, h *heap.Heap) {
	t.Helper()
	for _, tie := range append([]int{-2, -1, 0, 1, 2}, ends...) {
		if v, ok := h.Pop(tie); v != 0 || ok || h.Len() != 0 {
			t.Errorf("Pop(%d) of none: %d, %t; %d are in it", tie, v, ok, h.Len())
		}
	}
}

// made is a Heap of one variable for each of these scores.
func made(t *testing.T, scores ...int) *heap.Heap {
	t.Helper()
	h := heap.New(len(scores))
	for i, s := range scores {
		if got := h.Bump(i+1, s); got != s {
			t.Fatalf("Bump(%d, %d) = %d", i+1, s, got)
		}
	}
	return h
}

// upTo is 1 to n.
func upTo(n int) []int {
	var out []int
	for v := 1; v <= n; v++ {
		out = append(out, v)
	}
	return out
}

// checkVars looks whether h has variables 1 to vars and no others, all in it, of
// score 0; it takes all out.
func checkVars(t *testing.T, h *heap.Heap, vars int) {
	t.Helper()
	if h.Len() != vars {
		t.Errorf("%d are in it, want %d", h.Len(), vars)
	}
	for v := 1; v <= vars; v++ {
		if !h.Has(v) || h.Score(v) != 0 || h.Push(v) {
			t.Fatalf("%d of %d is not in it, or not of score 0", v, vars)
		}
	}
	checkNone(t, h, vars)
	if got := all(t, h, 0); !slices.Equal(got, upTo(vars)) {
		t.Errorf("of %d variables Pop says %v", vars, got)
	}
	checkNone(t, h, vars)
}

// checkNone looks whether what is no variable of h's vars ones is none to every
// call, and changes nothing.
func checkNone(t *testing.T, h *heap.Heap, vars int) {
	t.Helper()
	many := h.Len()
	for _, v := range append([]int{0, -1, -2, -vars, -vars - 1, vars + 1, vars + 2, 2*vars + 2, api.MaxVars + 1, 1 << 20}, ends...) {
		if v > 0 && v <= vars {
			continue
		}
		if h.Has(v) || h.Push(v) || h.Bump(v, 5) != 0 || h.Bump(v, -5) != 0 || h.Score(v) != 0 || h.Has(v) || h.Len() != many {
			t.Errorf("%d is one of %d variables", v, vars)
		}
	}
}

func TestNew(t *testing.T) {
	for _, x := range []struct{ vars, want int }{
		{1, 1}, {2, 2}, {3, 3}, {4, 4}, {5, 5}, {7, 7}, {8, 8}, {9, 9}, {100, 100},
		{api.MaxVars - 1, api.MaxVars - 1}, {api.MaxVars, api.MaxVars}, {api.MaxVars + 1, api.MaxVars}, {math.MaxInt, api.MaxVars},
		{0, 0}, {-1, 0}, {-5, 0}, {math.MinInt, 0},
	} {
		checkVars(t, heap.New(x.vars), x.want)
	}
	if v, ok := heap.New(1).Pop(0); v != 1 || !ok {
		t.Error("the example:", v, ok)
	}
}

func TestGrow(t *testing.T) {
	for _, x := range []struct{ vars, by, want int }{
		{0, 1, 1}, {0, 5, 5}, {1, 2, 2}, {3, 4, 4}, {3, 9, 9}, {4, 7, 7}, {7, 8, 8}, {-3, 3, 3},
		{3, 3, 3}, {3, 2, 3}, {3, 0, 3}, {3, -1, 3}, {3, math.MinInt, 3}, {0, 0, 0}, {0, -1, 0}, {0, math.MinInt, 0},
		{3, api.MaxVars, api.MaxVars}, {3, api.MaxVars + 1, api.MaxVars}, {0, math.MaxInt, api.MaxVars},
		{api.MaxVars, math.MaxInt, api.MaxVars}, {api.MaxVars, 5, api.MaxVars},
	} {
		h := heap.New(x.vars)
		h.Grow(x.by)
		checkVars(t, h, x.want)
	}
	one := heap.New(0)
	for n := range 70 {
		one.Grow(n)
		if one.Len() != n || !one.Has(n) && n > 0 {
			t.Errorf("one by one: %d, of %d", one.Len(), n)
		}
	}
	checkVars(t, one, 69)
}

// TestGrowKeeps: what is out stays out, and each score what it is, whether the
// Heap grows or does not.
func TestGrowKeeps(t *testing.T) {
	for _, vars := range []int{4, 5, 7, 8, 30, 3, 0, -1, math.MinInt} {
		h := made(t, 1, 7, 3, 0)
		if v, ok := h.Pop(0); v != 2 || !ok {
			t.Error("Pop:", v, ok)
		}
		h.Grow(vars)
		many := max(vars, 4)
		if h.Has(2) || h.Len() != many-1 || h.Score(1) != 1 || h.Score(2) != 7 || h.Score(3) != 3 {
			t.Errorf("Grow(%d): %t, %d; scores %d, %d, %d", vars, h.Has(2), h.Len(), h.Score(1), h.Score(2), h.Score(3))
		}
		if got, want := all(t, h, 0), append([]int{3, 1}, upTo(many)[3:]...); !slices.Equal(got, want) {
			t.Errorf("Grow(%d): %v", vars, got)
		}
		h.Grow(many + 2)
		if got := all(t, h, 1); !slices.Equal(got, []int{many + 2, many + 1}) {
			t.Errorf("all out, and two more: %v", got)
		}
	}
}

func TestPush(t *testing.T) {
	h := made(t, 5, 9, 5)
	if h.Push(2) || h.Len() != 3 {
		t.Error("it is in it")
	}
	if v, ok := h.Pop(0); v != 2 || !ok {
		t.Error("Pop:", v, ok)
	}
	if !h.Push(2) || h.Len() != 3 || !h.Has(2) || h.Score(2) != 9 {
		t.Error("it is out:", h.Len(), h.Has(2), h.Score(2))
	}
	if h.Push(2) || h.Len() != 3 {
		t.Error("it is in it again")
	}
	if got := all(t, h, 0); !slices.Equal(got, []int{2, 1, 3}) {
		t.Error(got)
	}
	for _, v := range []int{3, 1, 2} { // in whatever order they come back, it is the number that counts
		if !h.Push(v) {
			t.Error("Push:", v)
		}
	}
	if got := all(t, h, 0); !slices.Equal(got, []int{2, 1, 3}) {
		t.Error(got)
	}
	if none := heap.New(0); none.Push(0) || none.Push(1) || none.Push(-1) || none.Len() != 0 {
		t.Error("none")
	}
}

func TestTie(t *testing.T) {
	for _, x := range []struct {
		scores    []int
		tie, want int
	}{
		{[]int{0}, 0, 1}, {[]int{0}, 1, 1}, {[]int{0}, -1, 1}, {[]int{0}, math.MinInt, 1}, {[]int{0}, math.MaxInt, 1},
		{[]int{0, 0, 0}, 0, 1}, {[]int{0, 0, 0}, 1, 2}, {[]int{0, 0, 0}, 2, 3}, {[]int{0, 0, 0}, 3, 1}, {[]int{0, 0, 0}, 5, 3},
		{[]int{0, 0, 0}, -1, 3}, {[]int{0, 0, 0}, -2, 2}, {[]int{0, 0, 0}, -3, 1}, {[]int{0, 0, 0}, -4, 3}, {[]int{0, 0, 0}, -6, 1},
		{[]int{0, 0, 0}, math.MaxInt, 2}, {[]int{0, 0, 0}, math.MaxInt - 1, 1}, {[]int{0, 0, 0}, math.MinInt, 2}, {[]int{0, 0, 0}, math.MinInt + 1, 3},
		// of those of the greatest score alone
		{[]int{1, 2, 1}, 0, 2}, {[]int{1, 2, 1}, 1, 2}, {[]int{1, 2, 1}, -7, 2},
		{[]int{4, 2, 4, 0, 4}, 0, 1}, {[]int{4, 2, 4, 0, 4}, 1, 3}, {[]int{4, 2, 4, 0, 4}, 2, 5}, {[]int{4, 2, 4, 0, 4}, 3, 1}, {[]int{4, 2, 4, 0, 4}, -1, 5},
		{[]int{0, 0, 0, 1, 0, 1, 0, 0}, 0, 4}, {[]int{0, 0, 0, 1, 0, 1, 0, 0}, 1, 6}, {[]int{0, 0, 0, 1, 0, 1, 0, 0}, 2, 4},
		{[]int{most, most, most - 1}, 1, 2}, {[]int{most - 1, most, most}, 0, 2}, {[]int{0, 1}, 0, 2},
	} {
		h := made(t, x.scores...)
		if v, ok := h.Pop(x.tie); v != x.want || !ok || h.Has(x.want) || h.Len() != len(x.scores)-1 {
			t.Errorf("of %v Pop(%d) = %d, %t, want %d", x.scores, x.tie, v, ok, x.want)
		}
	}
}

// TestOrder: one after the other, each time with the same tie.
func TestOrder(t *testing.T) {
	for _, x := range []struct {
		tie  int
		want []int
	}{
		{0, []int{2, 4, 1, 3, 6, 5}}, {1, []int{4, 2, 3, 6, 1, 5}}, {-1, []int{4, 2, 6, 3, 1, 5}}, {2, []int{2, 4, 6, 1, 3, 5}},
	} {
		if got := all(t, made(t, 1, 3, 1, 3, 0, 1), x.tie); !slices.Equal(got, x.want) {
			t.Errorf("by %d: %v, want %v", x.tie, got, x.want)
		}
	}
}

func TestBump(t *testing.T) {
	for _, x := range []struct{ score, by, want int }{
		{0, 0, 0}, {0, 1, 1}, {5, 3, 8}, {5, 0, 5}, {5, -3, 2}, {5, -5, 0}, {5, -6, 0}, {0, -1, 0},
		{0, most, most}, {0, most - 1, most - 1}, {0, most + 1, most}, {1, most - 1, most}, {1, most, most}, {2, most - 1, most},
		{most, 0, most}, {most, 1, most}, {most, -1, most - 1}, {most, -most, 0}, {most, -most + 1, 1}, {most, -most - 1, 0},
		{0, math.MaxInt, most}, {most, math.MaxInt, most}, {7, math.MaxInt - 7, most}, {7, math.MaxInt - 6, most},
		{0, math.MinInt, 0}, {most, math.MinInt, 0}, {7, math.MinInt + 1, 0},
	} {
		h := made(t, 0, x.score, 0)
		if got := h.Bump(2, x.by); got != x.want || h.Score(2) != x.want || h.Score(1) != 0 || h.Score(3) != 0 || h.Len() != 3 {
			t.Errorf("%d by %d: %d, %d, want %d", x.score, x.by, got, h.Score(2), x.want)
		}
	}
}

// TestBumpMoves: what is bumped takes its place at once; what is out is bumped
// likewise, and stays out.
func TestBumpMoves(t *testing.T) {
	h := made(t, 3, 3, 3, 3)
	h.Bump(3, 2)
	h.Bump(1, -1)
	if v, _ := h.Pop(1); v != 3 {
		t.Error("the one above the others:", v)
	}
	if got := h.Bump(3, 10); got != 15 || h.Has(3) || h.Len() != 3 {
		t.Error("out:", got, h.Has(3), h.Len())
	}
	if v, _ := h.Pop(1); v != 4 {
		t.Error("the second of two:", v)
	}
	if h.Bump(4, -9) != 0 || !h.Push(4) || !h.Push(3) {
		t.Error("they come back")
	}
	if got := all(t, h, 0); !slices.Equal(got, []int{3, 2, 1, 4}) {
		t.Error(got)
	}
}

func TestHalve(t *testing.T) {
	h := made(t, 0, 1, 2, 3, 7, most, most-1, 6)
	if v, _ := h.Pop(0); v != 6 {
		t.Error("Pop:", v)
	}
	h.Halve()
	for i, want := range []int{0, 0, 1, 1, 3, most / 2, most/2 - 1, 3} {
		if got := h.Score(i + 1); got != want {
			t.Errorf("half of %d's: %d, want %d", i+1, got, want)
		}
	}
	if h.Len() != 7 || h.Has(6) || !h.Push(6) {
		t.Error("what is out stays out:", h.Len())
	}
	// those that were not as good are now
	if got := all(t, h, 1); !slices.Equal(got, []int{6, 7, 8, 5, 4, 3, 2, 1}) {
		t.Error(got)
	}
	for range 45 {
		h.Halve()
	}
	for v := 1; v <= 8; v++ {
		if h.Score(v) != 0 || h.Has(v) {
			t.Error("in the end:", v, h.Score(v))
		}
	}
	none := heap.New(0)
	none.Halve()
	checkVars(t, none, 0)
}

// TestTwo: what is done with one is not seen in another one.
func TestTwo(t *testing.T) {
	a, b := heap.New(3), heap.New(3)
	a.Bump(2, 4)
	a.Pop(0)
	a.Grow(9)
	checkVars(t, b, 3)
	if a.Len() != 8 || a.Score(2) != 4 {
		t.Error(a.Len(), a.Score(2))
	}
}

// plain is a Heap as the words have it: a score a variable, one by one.
type plain struct {
	scores []int
	in     []bool
}

func (p *plain) grow(vars int) {
	for len(p.scores) < min(vars, api.MaxVars) {
		p.scores, p.in = append(p.scores, 0), append(p.in, true)
	}
}

func (p *plain) is(v int) bool { return v >= 1 && v <= len(p.scores) }

func (p *plain) push(v int) bool {
	if !p.is(v) || p.in[v-1] {
		return false
	}
	p.in[v-1] = true
	return true
}

func (p *plain) pop(tie int) (int, bool) {
	var best []int
	for i, s := range p.scores {
		if !p.in[i] || len(best) > 0 && s < p.scores[best[0]-1] {
			continue
		}
		if len(best) > 0 && s > p.scores[best[0]-1] {
			best = nil
		}
		best = append(best, i+1)
	}
	if best == nil {
		return 0, false
	}
	place := tie % len(best)
	if place < 0 {
		place += len(best)
	}
	p.in[best[place]-1] = false
	return best[place], true
}

// bump is of numbers that no sum is too great for.
func (p *plain) bump(v, by int) int {
	if !p.is(v) {
		return 0
	}
	p.scores[v-1] = min(max(p.scores[v-1]+by, 0), most)
	return p.scores[v-1]
}

func (p *plain) halve() {
	for i := range p.scores {
		p.scores[i] >>= 1
	}
}

// checkSame looks whether h is what p is.
func checkSame(t *testing.T, h *heap.Heap, p *plain) {
	t.Helper()
	many := 0
	for v := -1; v <= len(p.scores)+2; v++ {
		score, in := 0, false
		if p.is(v) {
			score, in = p.scores[v-1], p.in[v-1]
		}
		if in {
			many++
		}
		if h.Score(v) != score || h.Has(v) != in {
			t.Fatalf("%d: %d, %t, want %d, %t", v, h.Score(v), h.Has(v), score, in)
		}
	}
	if h.Len() != many {
		t.Fatalf("%d are in it, want %d", h.Len(), many)
	}
}

// TestPlain holds many calls, one behind the other, against the words.
func TestPlain(t *testing.T) {
	bys := []int{-most, -4, -1, 0, 1, 1, 1, 2, 3, 9, most / 2, most, 2 * most}
	for seed := range 300 {
		r := rand.New(rand.NewSource(int64(seed)))
		vars := r.Intn(12) * (1 + seed%5)
		h, p := heap.New(vars), &plain{}
		p.grow(vars)
		for step := range 300 {
			v, tie := r.Intn(len(p.scores)+3)-1, r.Intn(40)-20
			switch r.Intn(9) {
			case 0, 1, 2:
				got, ok := h.Pop(tie)
				if want, is := p.pop(tie); got != want || ok != is {
					t.Fatalf("%d, %d: Pop(%d) = %d, %t, want %d, %t", seed, step, tie, got, ok, want, is)
				}
			case 3, 4:
				if got, want := h.Push(v), p.push(v); got != want {
					t.Fatalf("%d, %d: Push(%d) = %t", seed, step, v, got)
				}
			case 5, 6, 7:
				by := bys[r.Intn(len(bys))]
				if got, want := h.Bump(v, by), p.bump(v, by); got != want {
					t.Fatalf("%d, %d: Bump(%d, %d) = %d, want %d", seed, step, v, by, got, want)
				}
			default:
				if step%3 == 0 {
					h.Grow(v + 2)
					p.grow(v + 2)
				} else {
					h.Halve()
					p.halve()
				}
			}
			checkSame(t, h, p)
		}
	}
}

// TestMany: as many variables as may be, all out and in again a few times.
func TestMany(t *testing.T) {
	h := heap.New(api.MaxVars)
	for round := range 5 {
		for v := 1; v <= api.MaxVars; v++ {
			h.Bump(v, v%7)
		}
		out := all(t, h, round)
		if !slices.IsSortedFunc(out, func(a, b int) int { return h.Score(b) - h.Score(a) }) {
			t.Error(round, "the greatest is not the first")
		}
		for _, v := range out {
			if !h.Push(v) {
				t.Fatal(round, v)
			}
		}
		if h.Len() != api.MaxVars {
			t.Fatal(round, h.Len())
		}
		h.Halve()
	}
}
