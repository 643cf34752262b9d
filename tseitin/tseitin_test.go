package tseitin_test

import (
	"math"
	"slices"
	"testing"

	"skolem/api"
	"skolem/gate"
	"skolem/graph"
	"skolem/lits"
	"skolem/look"
	"skolem/slow"
	"skolem/tseitin"
)

// circuit is one of so many inputs, these gates and these Outs.
func circuit(inputs int, ands [][2]int, outs ...int) api.Circuit {
	return api.Circuit{Inputs: inputs, Ands: ands, Outs: outs}
}

// some is three inputs and gates of them: nodes 4 to 9.
func some(outs ...int) api.Circuit {
	return circuit(3, [][2]int{{4, 2}, {7, 5}, {9, 3}, {11, 8}, {12, 12}, {1, 0}}, outs...)
}

// values is so many bools, n's bits.
func values(many, n int) []bool {
	var out []bool
	for i := range many {
		out = append(out, n>>i&1 == 1)
	}
	return out
}

// same tells whether a and b are the same clauses, in the same order.
func same(a, b [][]int) bool {
	return slices.EqualFunc(a, b, func(c, d []int) bool { return slices.Equal(c, d) })
}

func TestLit(t *testing.T) {
	for _, q := range []struct{ l, want int }{
		{2, 1}, {3, -1}, {4, 2}, {5, -2}, {6, 3}, {7, -3}, {16000, 8000}, {16001, -8000}, {16002, 8001}, {16003, -8001},
		{math.MaxInt, -(math.MaxInt / 2)}, {math.MaxInt - 1, math.MaxInt / 2},
		{1, 0}, {0, 0}, {-1, 0}, {-2, 0}, {-3, 0}, {-5, 0}, {math.MinInt, 0}, {math.MinInt + 1, 0},
	} {
		if got := tseitin.Lit(q.l); got != q.want {
			t.Errorf("Lit(%d) = %d, want %d", q.l, got, q.want)
		}
	}
}

func TestEncode(t *testing.T) {
	for i, q := range []struct {
		c    api.Circuit
		want [][]int
	}{
		{api.Circuit{}, nil},
		{circuit(0, nil, 0, 1), nil},
		{circuit(3, nil, 2, 7), nil},
		{circuit(2, [][2]int{{4, 2}}), [][]int{{-3, 2}, {-3, 1}, {3, -2, -1}}},
		{circuit(2, [][2]int{{5, 2}}), [][]int{{-3, -2}, {-3, 1}, {3, 2, -1}}},
		{circuit(2, [][2]int{{4, 3}}), [][]int{{-3, 2}, {-3, -1}, {3, -2, 1}}},
		{circuit(2, [][2]int{{5, 3}}), [][]int{{-3, -2}, {-3, -1}, {3, 2, 1}}},
		// of a literal and itself, or its opposite: as of others
		{circuit(1, [][2]int{{2, 2}}), [][]int{{-2, 1}, {-2, 1}, {2, -1, -1}}},
		{circuit(1, [][2]int{{3, 3}}), [][]int{{-2, -1}, {-2, -1}, {2, 1, 1}}},
		{circuit(1, [][2]int{{3, 2}}), [][]int{{-2, -1}, {-2, 1}, {2, 1, -1}}},
		// 0 and 1
		{circuit(1, [][2]int{{2, 0}}), [][]int{{-2, 1}, {-2}}},
		{circuit(1, [][2]int{{3, 0}}), [][]int{{-2, -1}, {-2}}},
		{circuit(1, [][2]int{{2, 1}}), [][]int{{-2, 1}, {2, -1}}},
		{circuit(1, [][2]int{{3, 1}}), [][]int{{-2, -1}, {2, 1}}},
		{circuit(0, [][2]int{{0, 0}}), [][]int{{-1}, {-1}}},
		{circuit(0, [][2]int{{1, 0}}), [][]int{{-1}}},
		{circuit(0, [][2]int{{1, 1}}), [][]int{{1}}},
		// of gates, in their order
		{circuit(1, [][2]int{{2, 2}, {5, 3}}), [][]int{{-2, 1}, {-2, 1}, {2, -1, -1}, {-3, -2}, {-3, -1}, {3, 2, 1}}},
		{circuit(0, [][2]int{{1, 1}, {3, 2}, {4, 1}}), [][]int{{1}, {-2, -1}, {-2, 1}, {2, 1, -1}, {-3, 2}, {3, -2}}},
		{circuit(2, [][2]int{{4, 2}, {4, 2}}), [][]int{{-3, 2}, {-3, 1}, {3, -2, -1}, {-4, 2}, {-4, 1}, {4, -2, -1}}},
		{some(18, 2, 2, 0), [][]int{
			{-4, 2}, {-4, 1}, {4, -2, -1}, {-5, -3}, {-5, -2}, {5, 3, 2}, {-6, -4}, {-6, -1}, {6, 4, 1},
			{-7, -5}, {-7, 4}, {7, 5, -4}, {-8, 6}, {-8, 6}, {8, -6, -6}, {-9},
		}},
	} {
		got, err := tseitin.Encode(q.c)
		if err != nil || got.Vars != q.c.Inputs+len(q.c.Ands) || !same(got.Clauses, q.want) {
			t.Errorf("%d: Encode(%v) = %v, %v, want %v", i, q.c, got, err, q.want)
		}
	}
}

func TestForce(t *testing.T) {
	gates := [][]int{{-3, 2}, {-3, -1}, {3, -2, 1}}
	for _, q := range []struct {
		force []int
		want  [][]int // behind the gates
	}{
		{nil, nil}, {[]int{}, nil},
		{[]int{2}, [][]int{{1}}}, {[]int{3}, [][]int{{-1}}}, {[]int{5}, [][]int{{-2}}},
		{[]int{6}, [][]int{{3}}}, {[]int{7}, [][]int{{-3}}},
		{[]int{1}, nil}, {[]int{0}, [][]int{nil}}, {[]int{1, 1}, nil}, {[]int{0, 0}, [][]int{nil, nil}},
		// in their order, each as often as it stands there
		{[]int{6, 2, 5}, [][]int{{3}, {1}, {-2}}}, {[]int{4, 4}, [][]int{{2}, {2}}}, {[]int{3, 2}, [][]int{{-1}, {1}}},
		{[]int{7, 1, 2}, [][]int{{-3}, {1}}}, {[]int{7, 0, 2}, [][]int{{-3}, nil, {1}}}, {[]int{1, 0, 1, 6}, [][]int{nil, {3}}},
	} {
		got, err := tseitin.Encode(circuit(2, [][2]int{{4, 3}}, 7), q.force...)
		if want := slices.Concat(gates, q.want); err != nil || got.Vars != 3 || !same(got.Clauses, want) {
			t.Errorf("Encode by %v = %v, %v, want %v", q.force, got, err, want)
		}
	}
	if got, err := tseitin.Encode(circuit(2, nil), 2, 5); err != nil || got.Vars != 2 || !same(got.Clauses, [][]int{{1}, {-2}}) {
		t.Error("one by one:", got, err)
	}
	if got, err := tseitin.Encode(api.Circuit{}, 1, 0); err != nil || got.Vars != 0 || !same(got.Clauses, [][]int{nil}) {
		t.Error("of the zero value:", got, err)
	}
}

// checkErr looks whether Encode of c says this, and nothing else.
func checkErr(t *testing.T, want error, c api.Circuit, force ...int) {
	t.Helper()
	got, err := tseitin.Encode(c, force...)
	if err != want || got.Vars != 0 || len(got.Clauses) != 0 {
		t.Errorf("Encode of %d inputs, %d gates, %v by %v: %d variables, %d clauses, %v, want %v", c.Inputs, len(c.Ands), c.Outs, force, got.Vars, len(got.Clauses), err, want)
	}
}

// TestNotForce: one that is no literal of the circuit, wherever it stands.
func TestNotForce(t *testing.T) {
	for _, c := range []api.Circuit{{}, circuit(2, nil), circuit(0, [][2]int{{1, 1}, {3, 2}}), some(), some(18, 2)} {
		last := 2*(c.Inputs+len(c.Ands)) + 1
		for _, l := range []int{last + 1, last + 2, last + 3, 2*last + 2, 1 << 40, math.MaxInt, math.MaxInt - 1, -1, -2, -3, -last, math.MinInt, math.MinInt + 1} {
			checkErr(t, api.ErrRange, c, l)
			checkErr(t, api.ErrRange, c, l, 1)
			checkErr(t, api.ErrRange, c, 1, 0, last, l)
		}
		if _, err := tseitin.Encode(c, last, last-1, 0, 1); err != nil {
			t.Error("literals of it:", err)
		}
	}
}

// notRight is circuits that are not right, and what graph.Check says of each.
func notRight() map[error][]api.Circuit {
	const most = api.MaxNodes
	ands := [][2]int{{4, 2}, {7, 3}}
	return map[error][]api.Circuit{
		api.ErrLimit: {
			circuit(-1, nil, 0), circuit(-2, ands, 0), circuit(math.MinInt, ands), circuit(most+1, nil), circuit(most-1, ands),
			circuit(math.MaxInt, ands), circuit(0, make([][2]int, most+1)), circuit(-1, [][2]int{{9, 9}}, -1),
		},
		api.ErrRange: {
			circuit(2, [][2]int{{6, 2}}), circuit(2, [][2]int{{7, 2}}), circuit(2, [][2]int{{2, 4}}), circuit(2, [][2]int{{4, 5}}), circuit(0, [][2]int{{0, 1}}),
			circuit(2, [][2]int{{8, 2}, {4, 2}}), circuit(2, [][2]int{{4, -1}}), circuit(2, [][2]int{{-1, -2}}), circuit(2, [][2]int{{math.MaxInt, 2}}),
			circuit(2, ands, 1, 10), circuit(2, ands, 1, -1), circuit(2, ands, 8, math.MaxInt), circuit(2, ands, math.MinInt), circuit(0, nil, 2),
		},
	}
}

// TestNotRight: of a circuit that is not right Encode tells what graph.Check
// does, whatever is to be true, and Extend nothing.
func TestNotRight(t *testing.T) {
	for want, list := range notRight() {
		for _, c := range list {
			if err := graph.Check(c); err != want {
				t.Error(c.Inputs, c.Outs, err)
			}
			checkErr(t, want, c)
			for _, l := range []int{0, 1, 2, -1, 99999, math.MaxInt, math.MinInt} {
				checkErr(t, want, c, l)
			}
			for _, in := range [][]bool{nil, {}, {true, false, true}} {
				if got := tseitin.Extend(c, in); len(got) != 0 {
					t.Error("Extend:", c.Inputs, c.Outs, got)
				}
			}
		}
	}
}

func TestExtend(t *testing.T) {
	const o, x = false, true
	for _, q := range []struct {
		c        api.Circuit
		in, want []bool
	}{
		{api.Circuit{}, nil, []bool{o}},
		{circuit(2, nil, 4), []bool{x, o}, []bool{o, x, o}},
		{circuit(2, [][2]int{{5, 2}}), []bool{x, o}, []bool{o, x, o, x}},
		{circuit(2, [][2]int{{5, 2}}), []bool{x, x}, []bool{o, x, x, o}},
		{circuit(0, [][2]int{{0, 0}, {1, 0}, {1, 1}, {7, 6}, {7, 5}, {10, 1}}), nil, []bool{o, o, o, x, o, o, o}},
		{some(17), []bool{x, x, o}, []bool{o, x, x, o, x, o, o, x, o, o}},
		{some(17), []bool{o, o, o}, []bool{o, o, o, o, o, x, x, o, x, o}},
		// those that are not there are false, and one too many says nothing
		{circuit(2, [][2]int{{5, 2}}), []bool{x}, []bool{o, x, o, x}},
		{circuit(2, [][2]int{{5, 3}}), nil, []bool{o, o, o, x}},
		{circuit(2, [][2]int{{5, 3}}), []bool{o, o, x, x}, []bool{o, o, o, x}},
		{api.Circuit{}, []bool{x, x}, []bool{o}},
	} {
		if got := tseitin.Extend(q.c, q.in); !slices.Equal(got, q.want) {
			t.Errorf("Extend(%v, %v) = %v, want %v", q.c, q.in, got, q.want)
		}
	}
}

// circuits calls f with all circuits of so many inputs and gates.
func circuits(inputs, gates int, ands [][2]int, f func(c api.Circuit)) {
	if len(ands) == gates {
		f(circuit(inputs, slices.Clone(ands)))
		return
	}
	for a := range 2 * (inputs + len(ands) + 1) {
		for b := range a + 1 {
			circuits(inputs, gates, append(slices.Clone(ands), [2]int{a, b}), f)
		}
	}
}

// TestAll holds both calls on all small circuits against the words.
func TestAll(t *testing.T) {
	many := 0
	each := func(c api.Circuit) {
		many++
		checkClauses(t, c)
		checkModels(t, c, nil)
		for l := range 2 * (c.Inputs + len(c.Ands) + 1) {
			checkModels(t, c, []int{l})
			checkModels(t, c, []int{0, l})
			checkModels(t, c, []int{l, 1, l ^ 1})
		}
	}
	circuits(0, 3, nil, each)
	circuits(1, 2, nil, each)
	circuits(2, 2, nil, each)
	circuits(3, 1, nil, each)
	if want := 3*10*21 + 10*21 + 21*36 + 36; many != want {
		t.Error(many, want)
	}
}

// plainly is the clauses of c as the words say them: three of each gate, and
// then what 0 and 1 leave of them.
func plainly(c api.Circuit) [][]int {
	const yes = 1 << 20 // stands for 1, minus it for 0
	variable := func(l int) int {
		v := l / 2
		if v == 0 {
			v = -yes
		}
		if l%2 == 1 {
			v = -v
		}
		return v
	}
	var out [][]int
	for i, and := range c.Ands {
		n, a, b := c.Inputs+1+i, variable(and[0]), variable(and[1])
		for _, clause := range [][]int{{-n, a}, {-n, b}, {n, -a, -b}} {
			if !slices.Contains(clause, yes) {
				out = append(out, slices.DeleteFunc(clause, func(l int) bool { return l == -yes }))
			}
		}
	}
	return out
}

// checkClauses holds Encode of c against the words, and looks whether Outs say
// nothing.
func checkClauses(t *testing.T, c api.Circuit) {
	t.Helper()
	want := plainly(c)
	for _, outs := range [][]int{nil, {0}, {1, 1}, {2 * (c.Inputs + len(c.Ands))}} {
		c.Outs = outs
		got, err := tseitin.Encode(c)
		if err != nil || got.Vars != c.Inputs+len(c.Ands) || !same(got.Clauses, want) {
			t.Fatalf("Encode(%v) = %v, %v, want %v", c, got, err, want)
		}
		if err := lits.Check(got); err != nil {
			t.Fatal(c, err)
		}
	}
}

// holds tells whether values make all of clauses true.
func holds(clauses [][]int, values []bool) bool {
	for _, c := range clauses {
		if !slices.ContainsFunc(c, func(l int) bool { return values[max(l, -l)] == (l > 0) }) {
			return false
		}
	}
	return true
}

// checkModels looks whether those that make Encode of c and force true are just
// the values of c that make all of force true, one for each of the inputs'.
func checkModels(t *testing.T, c api.Circuit, force []int) {
	t.Helper()
	m, err := tseitin.Encode(c, force...)
	if err != nil {
		t.Fatal(c, force, err)
	}
	outs := c
	outs.Outs = force
	for in := range 1 << c.Inputs {
		input := values(c.Inputs, in)
		want := tseitin.Extend(c, input)
		if want[0] || !slices.Equal(want[1:c.Inputs+1], input) {
			t.Fatalf("Extend of %v, %v: %v", c, input, want)
		}
		may := !slices.Contains(look.Eval(outs, input...), false)
		for gates := range 1 << len(c.Ands) {
			model := slices.Concat([]bool{false}, input, values(len(c.Ands), gates))
			if holds(m.Clauses, model) != (may && slices.Equal(model, want)) {
				t.Fatalf("Encode of %v by %v: %v, of %v, worth %v", c, force, m, model, want)
			}
		}
	}
}

// TestFormula: a formula's clauses as a circuit, and as clauses again: they can
// be true where they could be, and the inputs are its model.
func TestFormula(t *testing.T) {
	for _, q := range []api.CNF{
		{Vars: 3, Clauses: [][]int{{1, -2}, {2, 3}, {-1, -3}}},
		{Vars: 3, Clauses: [][]int{{1, 2}, {1, -2}, {-1, 3}, {-3, -1}}},
		{Vars: 4, Clauses: [][]int{{-1, 2, 3}, {4}, {-4, -3}, {1, 3}, {-2, 1}}},
		{Vars: 2, Clauses: [][]int{nil}}, {Vars: 2}, {Vars: 1, Clauses: [][]int{{1}, {-1}}}, {Vars: 1, Clauses: [][]int{{1, -1}}},
	} {
		g := graph.New(q.Vars)
		l := gate.Clauses(g, q.Clauses)
		m, err := tseitin.Encode(g.Circuit(l), l)
		if err != nil {
			t.Fatal(q, err)
		}
		_, want, _ := slow.Sat(q)
		model, sat, err := slow.Sat(m)
		if err != nil || sat != want {
			t.Fatal(q, m, sat, err)
		}
		if sat && (!holds(q.Clauses, model) || !slices.Equal(tseitin.Extend(g.Circuit(), model[1:q.Vars+1]), model)) {
			t.Error(q, m, model)
		}
	}
}

// TestMany: as many nodes as may be, more of them than the clauses' readers
// take; and as many that are to be true.
func TestMany(t *testing.T) {
	const most = api.MaxNodes
	c := circuit(1, nil)
	want := []bool{false, true}
	for n := 2; n <= most; n++ {
		c.Ands = append(c.Ands, [2]int{2*n - 1, 2})
		want = append(want, !want[n-1]) // {2n - 1, 2}: where node n - 1 is false, and the input is true
	}
	m, err := tseitin.Encode(c, 2*most+1)
	if err != nil || m.Vars != most || !same(m.Clauses, append(plainly(c), []int{-most})) {
		t.Fatal(m.Vars, len(m.Clauses), err)
	}
	if got := tseitin.Extend(c, []bool{true}); !slices.Equal(got, want) || !holds(m.Clauses[:len(m.Clauses)-1], got) {
		t.Error("Extend:", len(got))
	}
	m, err = tseitin.Encode(circuit(most, nil), slices.Repeat([]int{2*most + 1, 0, 1}, 2*most)...)
	if err != nil || m.Vars != most || !same(m.Clauses, slices.Repeat([][]int{{-most}, nil}, 2*most)) {
		t.Error("of inputs alone:", m.Vars, len(m.Clauses), err)
	}
	checkErr(t, api.ErrRange, circuit(most, nil), 2*most+2)
	checkErr(t, api.ErrRange, c, 2*most+2)
}

// spoil writes into each clause of m, and appends to it.
func spoil(m api.CNF) {
	for i, c := range m.Clauses[:cap(m.Clauses)] {
		for k := range c[:cap(c)] {
			c[:cap(c)][k] = 77
		}
		m.Clauses[:cap(m.Clauses)][i] = append(c, 78)
	}
}

// TestMemory: what is handed in is neither changed nor kept, nor is what lies
// behind it read or written; each list handed out is new.
func TestMemory(t *testing.T) {
	c := some(14, 3, 99)
	c.Outs = c.Outs[:2]
	ands := append(slices.Clone(c.Ands), [2]int{77, 78}, [2]int{79, 80})
	c.Ands = ands[:6]
	in, force := []bool{true, true, true, true}, []int{9, 2, 99, -1}
	want := append(plainly(some()), []int{-4}, []int{1})
	m, err := tseitin.Encode(c, force[:2]...)
	for range 2 {
		other, _ := tseitin.Encode(c, force[:2]...)
		spoil(other)
		model := tseitin.Extend(c, in[:2])
		if !slices.Equal(model, []bool{false, true, true, false, true, false, false, true, false, false}) {
			t.Error(model)
		}
		for i := range model[:cap(model)] {
			model[:cap(model)][i] = i%2 == 0
		}
	}
	if !slices.Equal(ands, append(some().Ands, [2]int{77, 78}, [2]int{79, 80})) || !slices.Equal(c.Outs[:3], []int{14, 3, 99}) {
		t.Error(c, ands)
	}
	if !slices.Equal(in, []bool{true, true, true, true}) || !slices.Equal(force, []int{9, 2, 99, -1}) {
		t.Error(in, force)
	}
	ands[0], force[0] = [2]int{0, 0}, 0
	if err != nil || !same(m.Clauses, want) {
		t.Error(m, err)
	}
	for i := range m.Clauses { // no clause has another one in its spare room
		_ = append(m.Clauses[i], 55, 56, 57)
	}
	if !same(m.Clauses, want) {
		t.Error(m)
	}
}
