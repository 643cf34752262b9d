package slow_test

import (
	"fmt"
	"math"
	"slices"
	"testing"

	"skolem/api"
	"skolem/prefix"
	"skolem/qdimacs"
	"skolem/slow"
)

const lowest = -1<<62 + 1 // the least literal of which something is asked

// game is one of these variables and clauses.
func game(exists bool, outer, inner []int, c ...[]int) api.Game {
	return api.Game{Exists: exists, Outer: outer, Inner: inner, Clauses: c}
}

// cnf is these clauses of so many variables.
func cnf(vars int, c ...[]int) api.CNF { return api.CNF{Vars: vars, Clauses: c} }

// values is of each byte of s whether it is a 1.
func values(s string) []bool {
	var out []bool
	for i := range len(s) {
		out = append(out, s[i] == '1')
	}
	return out
}

// upTo is the numbers from first to last.
func upTo(first, last int) []int {
	var out []int
	for v := first; v <= last; v++ {
		out = append(out, v)
	}
	return out
}

// units is of each of these literals the clause of it alone.
func units(l ...int) [][]int {
	var out [][]int
	for _, x := range l {
		out = append(out, []int{x})
	}
	return out
}

// equal is the clauses of: the variables are worth the same.
func equal(v, u int) [][]int { return [][]int{{v, -u}, {-v, u}} }

func TestValue(t *testing.T) {
	var none []int
	for _, x := range []struct {
		g    api.Game
		want bool
	}{
		{api.Game{}, true},
		{api.Game{Exists: true}, true},
		{game(true, none, none, none), false}, // the clause of nothing
		{game(false, none, none, none), false},
		{game(true, upTo(1, 3), upTo(4, 5)), true},
		{game(false, upTo(1, 3), upTo(4, 5)), true},
		{game(true, upTo(1, 3), upTo(4, 5), none), false},
		{game(false, upTo(1, 3), upTo(4, 5), none), false},
		// one block
		{game(true, []int{1}, none, []int{1}), true},
		{game(true, []int{1}, none, []int{-1}), true},
		{game(true, []int{1}, none, []int{1}, []int{-1}), false},
		{game(true, []int{1}, none, []int{1, -1}), true},
		{game(false, []int{1}, none, []int{1}), false},
		{game(false, []int{1}, none, []int{-1}), false},
		{game(false, []int{1}, none, []int{1}, []int{-1}), false},
		{game(false, []int{1}, none, []int{1, -1}), true},
		// the inner one alone: who it is hangs on Exists as well
		{game(true, none, []int{1}, []int{1}), false},
		{game(true, none, []int{1}, []int{1, -1}), true},
		{game(false, none, []int{1}, []int{1}), true},
		{game(false, none, []int{1}, []int{-1}), true},
		{game(false, none, []int{1}, []int{1}, []int{-1}), false},
		// both: the inner one sees the outer one's
		{game(false, []int{1}, []int{2}, equal(1, 2)...), true},
		{game(true, []int{1}, []int{2}, equal(1, 2)...), false},
		{game(true, []int{1}, []int{2}, []int{1, 2}, []int{1, -2}), true},
		{game(true, []int{1}, []int{2}, []int{-1, 2}, []int{-1, -2}), true},
		{game(true, []int{1}, []int{2}, []int{2, 1}, []int{2, -1}), false},
		{game(false, []int{1}, []int{2}, []int{2, 1}, []int{2, -1}), true},
		{game(false, []int{1}, []int{2}, []int{1, 2}, []int{1, -2}), false},
		// whatever they are called, and in any order
		{game(false, []int{7}, []int{3}, equal(7, 3)...), true},
		{game(true, []int{7}, []int{3}, equal(7, 3)...), false},
		{game(false, []int{9, 2}, []int{8, 4}, append(equal(9, 4), equal(8, 2)...)...), true},
		{game(false, []int{9, 2}, []int{8, 4}, append(equal(9, 2), equal(8, 4)...)...), false},
		{game(false, []int{math.MaxInt}, []int{-lowest}, equal(math.MaxInt, -lowest)...), true},
		{game(true, []int{math.MaxInt}, []int{-lowest}, equal(math.MaxInt, -lowest)...), false},
		// one that is named twice is where it is first
		{game(false, []int{1, 1}, []int{2, 1}, equal(1, 2)...), true},
		{game(true, []int{1, 1}, []int{2, 1}, []int{1}), true},
		{game(false, []int{1, 1}, []int{2, 1}, []int{1}), false},
	} {
		if got, err := slow.Value(x.g); got != x.want || err != nil {
			t.Errorf("Value(%v) = %t, %v, want %t", x.g, got, err, x.want)
		}
	}
}

func TestWins(t *testing.T) {
	var none []int
	for _, x := range []struct {
		g     api.Game
		outer string
		want  bool
	}{
		{api.Game{}, "", false}, // it is true, and the one who does not exist wants it false
		{api.Game{Exists: true}, "", true},
		{game(false, none, none, none), "", true},
		{game(true, none, none, none), "", false},
		{game(true, []int{1}, none, []int{1}), "1", true},
		{game(true, []int{1}, none, []int{1}), "0", false},
		{game(true, []int{1}, none, []int{-1}), "1", false},
		{game(true, []int{1}, none, []int{-1}), "0", true},
		{game(false, []int{1}, none, []int{1}), "1", false},
		{game(false, []int{1}, none, []int{1}), "0", true},
		// whatever the inner one does
		{game(true, none, []int{1}, []int{1}), "", false},
		{game(true, none, []int{1}, []int{-1, 1}), "", true},
		{game(false, none, []int{1}, []int{1}), "", false},
		{game(false, none, []int{1}, []int{1}, []int{-1}), "", true},
		{game(true, []int{1}, []int{2}, []int{1, 2}), "1", true},
		{game(true, []int{1}, []int{2}, []int{1, 2}), "0", false},
		{game(true, []int{1}, []int{2}, []int{1, -2}), "1", true},
		{game(true, []int{1}, []int{2}, []int{1, -2}), "0", false},
		{game(false, []int{1}, []int{2}, []int{1, 2}, []int{-2}), "0", true},
		{game(false, []int{1}, []int{2}, []int{1, 2}, []int{-2}), "1", false},
		{game(false, []int{1}, []int{2}, equal(1, 2)...), "0", false},
		{game(false, []int{1}, []int{2}, equal(1, 2)...), "1", false},
		// the values go by Outer's places, not by the variables
		{game(true, []int{7, 3}, []int{9}, []int{7}, []int{-3, 9}), "10", true},
		{game(true, []int{7, 3}, []int{9}, []int{7}, []int{-3, 9}), "01", false},
		{game(true, []int{7, 3}, []int{9}, []int{7}, []int{-3, 9}), "11", false},
		{game(true, []int{3, 7}, []int{9}, []int{7}, []int{-3, 9}), "01", true},
		{game(true, []int{math.MaxInt, -lowest}, []int{1}, []int{math.MaxInt, 1}, []int{lowest}), "10", true},
		// one that is named twice is where it is first
		{game(true, []int{1, 1}, none, []int{1}), "10", true},
		{game(true, []int{1, 1}, none, []int{1}), "01", false},
		{game(true, []int{1}, []int{1}, []int{1}), "1", true},
		{game(true, []int{2}, []int{1, 1}, []int{1, 2}), "1", true},
		{game(true, []int{2}, []int{1, 1}, []int{1, -2}), "1", false},
	} {
		if got, err := slow.Wins(x.g, values(x.outer)); got != x.want || err != nil {
			t.Errorf("Wins(%v, %s) = %t, %v, want %t", x.g, x.outer, got, err, x.want)
		}
	}
}

func TestSat(t *testing.T) {
	for _, x := range []struct {
		c    api.CNF
		want string // place 0 ahead of all; none: no model
	}{
		{api.CNF{}, "0"},
		{cnf(3), "0000"},
		{cnf(0, nil), ""},
		{cnf(3, []int{1}, nil), ""},
		{cnf(1, []int{1}), "01"},
		{cnf(1, []int{-1}), "00"},
		{cnf(1, []int{1}, []int{-1}), ""},
		{cnf(1, []int{1, -1}), "00"},
		{cnf(2, []int{1, 1, 1}), "010"},
		// the first one: variable 1 is the lowest bit
		{cnf(3, []int{1, 2, 3}), "0100"},
		{cnf(3, []int{2, 3}), "0010"},
		{cnf(3, []int{2, 3}, []int{1, -2}), "0110"},     // 3 is ahead of 4
		{cnf(3, []int{3}, []int{1, 2}), "0101"},         // 5 is ahead of 6
		{cnf(3, []int{3, 1}, []int{3, 2}), "0110"},      // 3 is ahead of 4
		{cnf(3, []int{-1}, []int{1, 2, 3}), "0010"},     // 2 is ahead of 4
		{cnf(3, []int{-1, -2}, []int{2, 3}), "0010"},    // 2 is ahead of 4
		{cnf(3, []int{1}, []int{-2}, []int{3}), "0101"}, // and there is no other one
		{cnf(3, []int{1}, []int{2}, []int{3}), "0111"},
		{cnf(2, []int{1, 2}, []int{-1, 2}, []int{1, -2}), "011"},
		{cnf(2, []int{1, 2}, []int{-1, 2}, []int{1, -2}, []int{-1, -2}), ""},
	} {
		model, ok, err := slow.Sat(x.c)
		if !slices.Equal(model, values(x.want)) || ok != (x.want != "") || err != nil {
			t.Errorf("Sat(%v) = %v, %t, %v, want %s", x.c, model, ok, err, x.want)
		}
	}
}

// TestErrors: the number out of its range is told ahead of the limit, and
// nothing beside.
func TestErrors(t *testing.T) {
	var none []int
	few, many := upTo(1, api.MaxSlow), upTo(1, api.MaxSlow+1)
	all := api.MaxSlow * 100
	for _, x := range []struct {
		name  string
		g     api.Game
		outer int // how many values
		want  error
	}{
		{"nothing wrong", game(true, upTo(1, 2), upTo(3, 4), []int{1, -4}), 2, nil},
		{"a stranger", game(true, upTo(1, 2), upTo(3, 4), []int{1}, []int{2, 5}), 2, api.ErrRange},
		{"a stranger, negated", game(false, upTo(1, 2), upTo(3, 4), []int{1}, []int{2, -5}), 2, api.ErrRange},
		{"a stranger behind what decides", game(false, none, none, none, []int{1}), 0, api.ErrRange},
		{"a 0", game(true, upTo(1, 2), upTo(3, 4), []int{1, 0}), 2, api.ErrRange},
		{"a 0 in a block", game(true, []int{0, 1}, upTo(3, 4), []int{1, 0}), 2, api.ErrRange},
		{"a far one", game(true, upTo(1, 2), upTo(3, 4), []int{math.MaxInt}), 2, api.ErrRange},
		{"a far one, negated", game(true, upTo(1, 2), upTo(3, 4), []int{lowest}), 2, api.ErrRange},
		{"a stranger, and too many", game(true, many, many, []int{all}), len(many), api.ErrRange},
		{"a stranger to none, and too many", game(false, none, many, []int{all}), 0, api.ErrRange},
		{"too many in all", game(true, upTo(1, all), upTo(all+1, all+len(many))), all, api.ErrLimit},
		{"too many inner ones", game(true, none, many), 0, api.ErrLimit},
		{"too many, and the same", game(false, none, slices.Repeat([]int{1}, len(many)), []int{1}), 0, api.ErrLimit},
		{"too many, and decided", game(false, none, many, none), 0, api.ErrLimit},
		{"as many as may be", game(true, none, few), 0, nil},
	} {
		if got, err := slow.Value(x.g); err != x.want || err != nil && got {
			t.Errorf("%s: Value: %t, %v, want %v", x.name, got, err, x.want)
		}
		if got, err := slow.Wins(x.g, make([]bool, x.outer)); err != x.want || err != nil && got {
			t.Errorf("%s: Wins: %t, %v, want %v", x.name, got, err, x.want)
		}
		for _, n := range []int{0, 1, x.outer - 1, x.outer + 1, x.outer + 40} {
			if n < 0 || n == x.outer {
				continue
			}
			if got, err := slow.Wins(x.g, make([]bool, n)); err != api.ErrRange || got {
				t.Errorf("%s: Wins with %d values: %t, %v", x.name, n, got, err)
			}
		}
	}
}

// TestValueLimit: for Value all variables count, for Wins the inner ones alone.
func TestValueLimit(t *testing.T) {
	all := upTo(1, api.MaxSlow+1)
	for _, split := range []int{1, 10, api.MaxSlow, api.MaxSlow + 1} {
		for _, exists := range []bool{false, true} {
			g := game(exists, all[:split], all[split:])
			if got, err := slow.Value(g); got || err != api.ErrLimit {
				t.Errorf("Value with %d outer: %t, %v", split, got, err)
			}
			if got, err := slow.Wins(g, make([]bool, split)); got != exists || err != nil {
				t.Errorf("Wins with %d outer: %t, %v", split, got, err)
			}
		}
	}
}

func TestSatErrors(t *testing.T) {
	for _, x := range []struct {
		name string
		c    api.CNF
		want error
	}{
		{"a 0", cnf(3, []int{1, 0}), api.ErrRange},
		{"above Vars", cnf(3, []int{1}, []int{4}), api.ErrRange},
		{"below -Vars", cnf(3, []int{1}, []int{-4}), api.ErrRange},
		{"far above", cnf(3, []int{math.MaxInt}), api.ErrRange},
		{"far below", cnf(3, []int{lowest}), api.ErrRange},
		{"behind what decides", cnf(3, nil, []int{4}), api.ErrRange},
		{"of no variable", cnf(0, []int{1}), api.ErrRange},
		{"above Vars, and too many", cnf(api.MaxSlow+1, []int{api.MaxSlow + 2}), api.ErrRange},
		// of lits.Check's own limits too
		{"below no variable", cnf(-1), api.ErrRange},
		{"far below no variable", cnf(math.MinInt), api.ErrRange},
		{"more than all variables", cnf(api.MaxVars + 1), api.ErrRange},
		{"far more", cnf(math.MaxInt), api.ErrRange},
		{"more than all clauses", cnf(1, make([][]int, api.MaxClauses+1)...), api.ErrRange},
		{"more than all literals", cnf(1, slices.Repeat([]int{1}, api.MaxLits+1)), api.ErrRange},
		{"too many variables", cnf(api.MaxSlow + 1), api.ErrLimit},
		{"too many, decided", cnf(api.MaxSlow+1, nil), api.ErrLimit},
		{"as many as lits has", cnf(api.MaxVars, []int{api.MaxVars}), api.ErrLimit},
	} {
		if model, ok, err := slow.Sat(x.c); err != x.want || ok || len(model) != 0 {
			t.Errorf("%s: Sat: %v, %t, %v, want %v", x.name, model, ok, err, x.want)
		}
	}
}

// TestLimits: as many variables as may be, where the last values decide.
func TestLimits(t *testing.T) {
	all := upTo(1, api.MaxSlow)
	for split := 0; split <= api.MaxSlow; split += 5 {
		for _, exists := range []bool{false, true} {
			g := game(exists, all[:split], all[split:], units(all...)...)
			want := exists && split == len(all) || !exists && split == 0
			if got, err := slow.Value(g); got != want || err != nil {
				t.Errorf("Value of all true, %t, %d outer: %t, %v", exists, split, got, err)
			}
			var last []int // false where all are true, and only there
			for _, v := range all {
				last = append(last, -v)
			}
			g.Clauses = [][]int{last}
			want = exists && split > 0 || !exists && split < len(all)
			if got, err := slow.Value(g); got != want || err != nil {
				t.Errorf("Value of not all true, %t, %d outer: %t, %v", exists, split, got, err)
			}
		}
	}
	model, ok, err := slow.Sat(cnf(api.MaxSlow, units(all...)...))
	if !slices.Equal(model, append([]bool{false}, slices.Repeat([]bool{true}, api.MaxSlow)...)) || !ok || err != nil {
		t.Error("Sat of all true:", model, ok, err)
	}
	if model, ok, err = slow.Sat(cnf(api.MaxSlow, append(units(all...), []int{-api.MaxSlow})...)); len(model) != 0 || ok || err != nil {
		t.Error("Sat of none:", model, ok, err)
	}
	model, ok, err = slow.Sat(cnf(api.MaxSlow, slices.Repeat([][]int{{-1, 2, -3, api.MaxSlow}}, api.MaxClauses)...))
	if len(model) != api.MaxSlow+1 || slices.Contains(model, true) || !ok || err != nil {
		t.Error("Sat of many clauses:", model, ok, err)
	}
}

// TestWinsLimits: of outer variables there may be any number.
func TestWinsLimits(t *testing.T) {
	const many = 3000
	outer, inner := upTo(1, many), upTo(many+1, many+api.MaxSlow)
	var not []int // false where all inner ones are true, and only there
	for _, v := range inner {
		not = append(not, -v)
	}
	given := make([]bool, many)
	for i := range given {
		given[i] = i%3 == 0
	}
	units := units(inner...)
	for _, x := range []struct {
		name   string
		exists bool
		c      [][]int
		want   bool
	}{
		{"true but at the last", true, [][]int{not}, false},
		{"true there by an outer one", true, [][]int{append([]int{many - 2}, not...)}, true},
		{"not by one that is false", true, [][]int{append([]int{many}, not...)}, false},
		{"true there by one that is not", true, [][]int{append([]int{-many}, not...)}, true},
		{"false but at the last", false, units, false},
		{"false there by an outer one", false, append([][]int{{many}}, units...), true},
		{"not by one that is true", false, append([][]int{{many - 2}}, units...), false},
		{"true everywhere", true, [][]int{append([]int{inner[3]}, not...)}, true},
		{"false everywhere", false, append([][]int{{-inner[19]}}, units...), true},
	} {
		if got, err := slow.Wins(game(x.exists, outer, inner, x.c...), given); got != x.want || err != nil {
			t.Errorf("%s: Wins: %t, %v, want %t", x.name, got, err, x.want)
		}
	}
}

// pool is clauses of variables 1 to 3 in all their ways, the empty one too.
func pool() [][]int {
	out := [][]int{nil}
	for v := 1; v <= 3; v++ {
		for _, c := range slices.Clone(out) {
			out = append(out, append(slices.Clone(c), v), append([]int{-v}, c...))
		}
	}
	return append(out, []int{2, -2}, []int{-3, 1, 3, 1})
}

// everyMatrix calls f with each up to three clauses of the pool, in its order.
func everyMatrix(f func([][]int)) {
	all := pool()
	f(nil)
	for i, c := range all {
		f([][]int{c})
		for j, d := range all[i:] {
			f([][]int{c, d})
			for _, e := range all[i+j:] {
				f([][]int{c, d, e})
			}
		}
	}
}

// isTrue tells whether each of c has a literal that is true, plainly; value is
// what each variable is worth.
func isTrue(c [][]int, value map[int]bool) bool {
	for _, d := range c {
		if !slices.ContainsFunc(d, func(l int) bool { return l > 0 && value[l] || l < 0 && !value[-l] }) {
			return false
		}
	}
	return true
}

// some tells whether some values of vars, beside those that are known, make f
// true.
func some(vars []int, value map[int]bool, f func() bool) bool {
	if len(vars) == 0 {
		return f()
	}
	for _, is := range []bool{false, true} {
		value[vars[0]] = is
		if some(vars[1:], value, f) {
			return true
		}
	}
	return false
}

// plainly is what Value tells of g: some values are as some player wants it.
func plainly(g api.Game) bool {
	value := map[int]bool{}
	if g.Exists {
		return some(g.Outer, value, func() bool {
			return !some(g.Inner, value, func() bool { return !isTrue(g.Clauses, value) })
		})
	}
	return !some(g.Outer, value, func() bool {
		return !some(g.Inner, value, func() bool { return isTrue(g.Clauses, value) })
	})
}

// TestValueOfAll holds Value against a plain reading, and Wins against Value:
// some values win just where the outer player wins.
func TestValueOfAll(t *testing.T) {
	blocks := []struct{ outer, inner []int }{
		{nil, []int{3, 1, 2}}, {[]int{1}, []int{2, 3}}, {[]int{3, 1}, []int{2}}, {[]int{2, 3}, []int{1}}, {[]int{1, 3, 2}, nil},
	}
	told := map[bool]int{}
	everyMatrix(func(c [][]int) {
		for _, b := range blocks {
			for _, exists := range []bool{false, true} {
				g := game(exists, b.outer, b.inner, c...)
				got, err := slow.Value(g)
				if got != plainly(g) || err != nil {
					t.Fatalf("Value(%v) = %t, %v", g, got, err)
				}
				told[got]++
				if checkWins(t, g) != (got == exists) {
					t.Fatalf("Wins(%v) and Value, that tells %t", g, got)
				}
			}
		}
	})
	if told[true] < 1000 || told[false] < 1000 {
		t.Error(told)
	}
}

// checkWins holds Wins of g with all outer values against a plain reading, and
// tells whether some win.
func checkWins(t *testing.T, g api.Game) bool {
	t.Helper()
	value, won := map[int]bool{}, false
	some(g.Outer, value, func() bool {
		var outer []bool
		for _, v := range g.Outer {
			outer = append(outer, value[v])
		}
		got, err := slow.Wins(g, outer)
		want := !some(g.Inner, value, func() bool { return isTrue(g.Clauses, value) != g.Exists })
		if got != want || err != nil {
			t.Fatalf("Wins(%v, %v) = %t, %v", g, outer, got, err)
		}
		won = won || got
		return false
	})
	return won
}

// TestSatOfAll holds Sat against a plain reading: variable 1 goes up first.
func TestSatOfAll(t *testing.T) {
	models, none := 0, 0
	everyMatrix(func(c [][]int) {
		value := map[int]bool{}
		want := some([]int{4, 3, 2, 1}, value, func() bool { return isTrue(c, value) })
		got, ok, err := slow.Sat(cnf(4, c...))
		if ok != want || err != nil || !ok && len(got) != 0 {
			t.Fatalf("Sat(%v) = %v, %t, %v", c, got, ok, err)
		}
		if !ok {
			none++
			return
		}
		models++
		if !slices.Equal(got, []bool{false, value[1], value[2], value[3], value[4]}) {
			t.Fatalf("Sat(%v) = %v, want %v", c, got, value)
		}
	})
	if models < 1000 || none < 100 {
		t.Error(models, none)
	}
}

// TestOfText: the value of what is read.
func TestOfText(t *testing.T) {
	for _, x := range []struct {
		text string
		want bool
	}{
		{"p cnf 2 2\na 1 0\ne 2 0\n1 -2 0\n-1 2 0\n", true},
		{"p cnf 2 2\ne 1 0\na 2 0\n1 -2 0\n-1 2 0\n", false},
		{"p cnf 2 2\ne 2 0\n1 -2 0\n-1 2 0\n", true}, // the one without a block is ahead
		{"p cnf 2 2\na 2 0\n1 -2 0\n-1 2 0\n", false},
	} {
		f, err := qdimacs.Read([]byte(x.text))
		if err != nil {
			t.Fatal(err)
		}
		g, err := prefix.Norm(f)
		if err != nil {
			t.Fatal(err)
		}
		if got, err := slow.Value(g); got != x.want || err != nil {
			t.Errorf("Value of %q = %t, %v", x.text, got, err)
		}
	}
}

// fill writes x all over list, its spare room too.
func fill[T any](list []T, x T) {
	list = list[:cap(list)]
	for i := range list {
		list[i] = x
	}
}

// TestMemory: what is handed in is not changed, what lies behind its length
// neither read nor written, and each model is new memory.
func TestMemory(t *testing.T) {
	outer, inner := []int{4, 2, 9, 9}, []int{3, 1, 8, 8}
	first, second := []int{4, -3, 9, 9}, []int{-2, -4, 1, 9}
	given := []bool{true, false, true, true}
	behind := [][]int{first[:2], second[:3], {9}, nil}
	shown := func() string { return fmt.Sprint(outer, inner, first, second, given, behind) }
	before := shown()
	g := game(true, outer[:2], inner[:2], behind[:2]...)
	if got, err := slow.Value(g); !got || err != nil {
		t.Error("Value:", got, err)
	}
	if got, err := slow.Wins(g, given[:2]); !got || err != nil {
		t.Error("Wins:", got, err)
	}
	c := cnf(4, behind[:2]...)
	model, ok, err := slow.Sat(c)
	if !slices.Equal(model, values("00000")) || !ok || err != nil {
		t.Error("Sat:", model, ok, err)
	}
	other, _, _ := slow.Sat(c)
	fill(model, true)
	if !slices.Equal(other, values("00000")) || slices.Contains(other[:cap(other)], true) {
		t.Error("models share memory", other)
	}
	if again, _, _ := slow.Sat(c); !slices.Equal(again, values("00000")) {
		t.Error("a model is kept", again)
	}
	if shown() != before {
		t.Error("changed:", shown())
	}
}
