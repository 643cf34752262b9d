package qdimacs_test

import (
	"bytes"
	"fmt"
	"math"
	"slices"
	"strings"
	"testing"

	"skolem/api"
	"skolem/dimacs"
	"skolem/qdimacs"
	"skolem/word"
)

// isAt tells whether err is this one around this place, and nothing more (none: nil).
func isAt(err error, pos int, this error) bool {
	if this == nil {
		return err == nil
	}
	a, ok := err.(*api.At)
	return ok && a.Pos == pos && a.Err == this
}

// same tells whether f and g are the same formula, their lists in order.
func same(f, g api.Formula) bool {
	return f.CNF.Vars == g.CNF.Vars &&
		slices.EqualFunc(f.CNF.Clauses, g.CNF.Clauses, slices.Equal[[]int]) &&
		slices.EqualFunc(f.Blocks, g.Blocks, func(a, b api.Block) bool {
			return a.Exists == b.Exists && slices.Equal(a.Vars, b.Vars)
		})
}

// formula is one of these blocks and clauses.
func formula(vars int, blocks []api.Block, clauses ...[]int) api.Formula {
	return api.Formula{Blocks: blocks, CNF: api.CNF{Vars: vars, Clauses: clauses}}
}

// forall and exists are blocks of these variables.
func forall(vars ...int) api.Block { return api.Block{Vars: vars} }
func exists(vars ...int) api.Block { return api.Block{Exists: true, Vars: vars} }

// list is these blocks.
func list(b ...api.Block) []api.Block { return b }

// checkRead tells where Read of text does not answer this.
func checkRead(t *testing.T, text string, want api.Formula, pos int, wantErr error) {
	t.Helper()
	f, err := qdimacs.Read([]byte(text))
	if !same(f, want) || !isAt(err, pos, wantErr) {
		t.Errorf("Read(%.100q) = %.200s, %v", text, fmt.Sprint(f), err)
	}
}

func TestRead(t *testing.T) {
	for _, x := range []struct {
		text string
		want api.Formula
	}{
		// without a block
		{"p cnf 0 0", formula(0, nil)},
		{"p cnf 3 2\n1 -2 0\n3 0\n", formula(3, nil, []int{1, -2}, []int{3})},
		{"p cnf 3 2 1 -2 0 3 0", formula(3, nil, []int{1, -2}, []int{3})},
		// with some
		{"p cnf 3 2\na 1 2 0\ne 3 0\n1 -2 0\n3 0\n", formula(3, list(forall(1, 2), exists(3)), []int{1, -2}, []int{3})},
		{"p cnf 3 1\ne 3 1 0\n1 -2 0\n", formula(3, list(exists(3, 1)), []int{1, -2})},          // as they stand there
		{"p cnf 3 0\na 2 0\ne 1 0\na 3 0\n", formula(3, list(forall(2), exists(1), forall(3)))}, // any number of them, no clause
		{"p cnf 3 0\ne 1 0\ne 2 0\na 3 0", formula(3, list(exists(1), exists(2), forall(3)))},   // neighbours of one kind
		{"p cnf 3 1\na 0\ne 0\na 0\n0", formula(3, list(forall(), exists(), forall()), nil)},    // of nothing
		{"p cnf 0 0\na 0\n", formula(0, list(forall()))},
		{"p cnf 4000 0\na 4000 1 0\n", formula(4000, list(forall(4000, 1)))},
		// the words of a block are on any lines
		{"p cnf 3 1\na\n1\n\n2\n0\ne 3\n0 1\n0", formula(3, list(forall(1, 2), exists(3)), []int{1})},
		{"p cnf 3 1\na 1 0 2 0", formula(3, list(forall(1)), []int{2})}, // a clause on the line of a block
		{"p cnf 3 1\na 1\n0 2\n0", formula(3, list(forall(1)), []int{2})},
		{"p cnf 3 1\n\r\n\t a\t1 \t 2\r0\r\n \te 3 0 \n 1 0\n\n", formula(3, list(forall(1, 2), exists(3)), []int{1})},
		{"c a 1 0\np cnf 3 1\nc a 1 0\na 2\nc e 3 0\n1 0\ncc\n3 0\nc", formula(3, list(forall(2, 1)), []int{3})},
		// numbers
		{"p cnf 3 1\na 001 000000003 -0\ne 2 00\n-0", formula(3, list(forall(1, 3), exists(2)), nil)},
	} {
		checkRead(t, x.text, x.want, 0, nil)
	}
}

func TestReadAmiss(t *testing.T) {
	for _, x := range []struct {
		text string
		pos  int
		err  error
	}{
		// as in a text without blocks
		{"", 0, api.ErrText},
		{"c a 1 0\n", 8, api.ErrText},
		{"p\ncnf 3 2", 9, api.ErrText},
		{"p dnf 4001", 2, api.ErrText},
		{"p cnf 3\n2", 8, api.ErrText},
		{"p cnf -0 0\na 0", 6, api.ErrText},
		{"p cnf 4001 0\nx", 6, api.ErrLimit},
		{"p cnf 0 20001\nx", 8, api.ErrLimit},
		{"p cnf 3 1\n\n", 11, api.ErrText},
		{"p cnf 3 1\n1 4 0", 12, api.ErrText},
		{"p cnf 3 1\n1 0 2 0", 14, api.ErrText},
		// and with them
		{"p cnf 3 1\na 1 0\n", 16, api.ErrText},
		{"p cnf 3 1\na 1 0\n1", 17, api.ErrText},
		{"p cnf 3 1\na 1 0\n1 4 0", 18, api.ErrText},
		{"p cnf 3 1\na 1 0\nx 0", 16, api.ErrText},
		{"p cnf 3 1\na 1 0\n1 0 2 0", 20, api.ErrText},
		{"p cnf 3 0\na 1 0 2", 16, api.ErrText},
		{"p cnf 3 0\na 1 0 0", 16, api.ErrText},
		// ahead of the head
		{"a 1 0\np cnf 3 0\n", 0, api.ErrText},
		{"e 1 0", 0, api.ErrText},
		// not the first of its line
		{"p cnf 3 1 a 1 0\n1 0", 10, api.ErrText},
		{"p cnf 3 1 e", 10, api.ErrText},
		{"p cnf 3 1\na 1 0 e 2 0\n1 0", 16, api.ErrText},
		{"p cnf 3 0\na 1\n0 e 2 0", 16, api.ErrText},
		// a clause has begun
		{"p cnf 3 1\n1 0\na 2 0\n", 14, api.ErrText},
		{"p cnf 3 2\n1 0\na 2 0\n", 14, api.ErrText},
		{"p cnf 3 2\n1\na 2 0\n", 12, api.ErrText},
		{"p cnf 3 2\n0\ne 2 0\n", 12, api.ErrText},
		{"p cnf 3 2\na 1 0\n-2 0\ne 2 0\n", 21, api.ErrText},
		{"p cnf 3 2 1\ne 2 0\n", 12, api.ErrText}, // on the head's line
		{"p cnf 3 1\na 1 0 2\ne 3 0\n", 18, api.ErrText},
		// other words than a, e
		{"p cnf 3 0\nA 1 0", 10, api.ErrText},
		{"p cnf 3 0\nae 1 0", 10, api.ErrText},
		{"p cnf 3 0\nd 1 0", 10, api.ErrText},
		{"p cnf 3 0\na1 0", 10, api.ErrText},
		{"p cnf 3 0\n-a 1 0", 10, api.ErrText},
		// words lack in a block
		{"p cnf 3 0\na", 11, api.ErrText},
		{"p cnf 3 0\ne 1 2\n\n", 17, api.ErrText},
		{"p cnf 3 0\na 1\nc 0\n", 18, api.ErrText},
		{"p cnf 3 0\na 1 0\ne", 17, api.ErrText},
		// a block in a block
		{"p cnf 3 0\na\ne 1 0", 12, api.ErrText},
		{"p cnf 3 0\na 1\na 2 0", 14, api.ErrText},
		{"p cnf 3 0\na a 1 0", 12, api.ErrText},
		// no variable
		{"p cnf 3 0\na -1 0", 12, api.ErrText},
		{"p cnf 3 0\na 4 0", 12, api.ErrText},
		{"p cnf 3 0\na 1 4001 0", 14, api.ErrText}, // more than there are, not than may be
		{"p cnf 0 0\ne 1 0", 12, api.ErrText},
		{"p cnf 3 0\na 1 +2 0", 14, api.ErrText},
		{"p cnf 3 0\na x 0", 12, api.ErrText},
		{"p cnf 3 0\na 1 - 0", 14, api.ErrText},
		{"p cnf 3 0\na 0000000001 0", 12, api.ErrText},
		{"p cnf 3 0\na 1 0000000000", 14, api.ErrText},
		{"p cnf 3 0\na 999999999 0", 12, api.ErrText},
		{"p cnf 3 0\na 1 p cnf 3 0", 14, api.ErrText},
		// one that was there
		{"p cnf 3 0\na 1 2 1 0", 16, api.ErrText},
		{"p cnf 3 0\na 1 1 0", 14, api.ErrText},
		{"p cnf 3 0\na 1 2 0\ne 3 2 0", 22, api.ErrText},
		{"p cnf 3 0\na 3 0\ne 1 0\na 3 0", 24, api.ErrText},
		{"p cnf 3 0\na 1 0\ne 01 0", 18, api.ErrText},
		// the first one that is amiss
		{"p cnf 3 0\na 1 1 x 0", 14, api.ErrText},
		{"p cnf 3 0\na x 4 0\n9", 12, api.ErrText},
		{"p cnf 3 1\na 1\n2 x\n4 0", 16, api.ErrText},
	} {
		checkRead(t, x.text, api.Formula{}, x.pos, x.err)
	}
}

func TestReadLimits(t *testing.T) {
	const head = "p cnf 3 1\na 2 0\n1 0"
	fill := func(n int) string { return head + strings.Repeat("\n", n-len(head)) }
	checkRead(t, fill(api.MaxText), formula(3, list(forall(2)), []int{1}), 0, nil)
	checkRead(t, fill(api.MaxText+1), api.Formula{}, api.MaxText, api.ErrLimit)
	checkRead(t, "x"+fill(api.MaxText), api.Formula{}, api.MaxText, api.ErrLimit) // ahead of what is amiss in it
	checkRead(t, "x"+fill(api.MaxText-1), api.Formula{}, 0, api.ErrText)

	var every []int
	text := "p cnf 4000 0\ne"
	for v := api.MaxVars; v >= 1; v-- {
		every = append(every, v)
		text += fmt.Sprint("\n", v)
	}
	checkRead(t, text+"\n0", formula(api.MaxVars, list(exists(every...))), 0, nil)
	checkRead(t, text+"\n4000 0", api.Formula{}, len(text)+1, api.ErrText)
	checkRead(t, text, api.Formula{}, len(text), api.ErrText)

	// blocks of nothing have no limit but the text's, and a block's variables are no literals
	const many = api.MaxText/4 - 50
	checkRead(t, "p cnf 0 0\n"+strings.Repeat("e 0\n", many), formula(0, slices.Repeat(list(exists()), many)), 0, nil)
	full := "p cnf 2 1\na 1 0\ne 2 0\n" + strings.Repeat("1 ", api.MaxLits)
	checkRead(t, full+"0", formula(2, list(forall(1), exists(2)), slices.Repeat([]int{1}, api.MaxLits)), 0, nil)
	checkRead(t, full+"1 0", api.Formula{}, len(full), api.ErrLimit)
	checkRead(t, full+"a 0", api.Formula{}, len(full), api.ErrText)
}

// plain reads a text's words, one at a time.
type plain struct {
	f    api.Formula
	left int   // clauses that are to come
	in   int   // where it is: see below
	open []int // the clause that has begun
	met  []int // the variables of blocks
}

// Where plain is.
const (
	ahead = iota // of the clauses, in no block
	block
	clauses
)

// head takes the first four words; -1, or the number of the one that is amiss.
func (p *plain) head(w []word.Word) int {
	counts := []string{"0", "1", "2"}
	for i, allowed := range [][]string{{"p"}, {"cnf"}, counts, counts} {
		if i == len(w) || w[i].First != (i == 0) || !slices.Contains(allowed, w[i].Text) {
			return i
		}
	}
	p.f.CNF.Vars, p.left = int(w[2].Text[0]-'0'), int(w[3].Text[0]-'0')
	return -1
}

// next takes a further word, if it may stand there.
func (p *plain) next(x word.Word) bool {
	if p.in == ahead && x.First && (x.Text == "a" || x.Text == "e") {
		p.f.Blocks = append(p.f.Blocks, api.Block{Exists: x.Text == "e"})
		p.in = block
		return true
	}
	l, ok := map[string]int{"1": 1, "2": 2, "-2": -2, "3": 3, "0": 0, "-0": 0}[x.Text]
	if !ok {
		return false
	}
	if p.in == block {
		return p.inBlock(l)
	}
	p.in = clauses
	return p.inClauses(l)
}

func (p *plain) inBlock(v int) bool {
	if v == 0 {
		p.in = ahead
		return true
	}
	if v < 0 || v > p.f.CNF.Vars || slices.Contains(p.met, v) {
		return false
	}
	p.met = append(p.met, v)
	b := &p.f.Blocks[len(p.f.Blocks)-1]
	b.Vars = append(b.Vars, v)
	return true
}

func (p *plain) inClauses(l int) bool {
	if p.left == 0 || max(l, -l) > p.f.CNF.Vars {
		return false
	}
	if l != 0 {
		p.open = append(p.open, l)
		return true
	}
	p.f.CNF.Clauses, p.open = append(p.f.CNF.Clauses, p.open), nil
	p.left--
	return true
}

// plainly is what Read tells of text; where is the place of what is amiss, or -1.
func plainly(text string) (f api.Formula, where int) {
	w := word.Split([]byte(text), true)
	place := func(i int) int {
		if i < len(w) {
			return w[i].Pos
		}
		return len(text)
	}
	var p plain
	if i := p.head(w); i >= 0 {
		return api.Formula{}, place(i)
	}
	for i, x := range w[4:] {
		if !p.next(x) {
			return api.Formula{}, place(4 + i)
		}
	}
	if p.in == block || p.left > 0 {
		return api.Formula{}, len(text)
	}
	return p.f, -1
}

// every calls f with each text that begins with head and goes on with up to
// most of these parts.
func every(head string, parts []string, most int, f func(text string)) {
	f(head)
	if most == 0 {
		return
	}
	for _, p := range parts {
		every(head+p, parts, most-1, f)
	}
}

func TestReadOfAll(t *testing.T) {
	right := 0
	check := func(text string) {
		want, where := plainly(text)
		f, err := qdimacs.Read([]byte(text))
		var wantErr error
		if where >= 0 {
			wantErr = api.ErrText
		} else {
			right++
		}
		if !same(f, want) || !isAt(err, where, wantErr) {
			t.Fatalf("Read(%q) = %v, %v, want %v, %d", text, f, err, want, where)
		}
	}
	every("", []string{"p ", "cnf ", "1 ", "0 ", "a ", "\n"}, 6, check)
	for _, head := range []string{"p cnf 2 0\n", "p cnf 2 1\n", "p cnf 2 2\na ", "p cnf 0 1\n", "p cnf 1 0 "} {
		every(head, []string{"a ", "e ", "1 ", "2 ", "0 ", "\n"}, 6, check)
		every(head, []string{"a ", "\ne ", "1 ", "-2 ", "-0\n", "3 ", "x ", "\nc 1 0\n"}, 5, check)
	}
	if right < 1000 {
		t.Errorf("only %d texts are right", right)
	}
}

func TestBytes(t *testing.T) {
	for _, x := range []struct {
		f    api.Formula
		want string
	}{
		{api.Formula{}, "p cnf 0 0\n"},
		{formula(3, nil, []int{1, -2}, nil), "p cnf 3 2\n1 -2 0\n0\n"},
		{formula(3, list(forall(1, 2), exists(3)), []int{1, -2}, []int{3}), "p cnf 3 2\na 1 2 0\ne 3 0\n1 -2 0\n3 0\n"},
		{formula(3, list(exists(3, 1))), "p cnf 3 0\ne 3 1 0\n"},
		{formula(0, list(forall(), exists(), exists(), forall()), nil), "p cnf 0 1\na 0\ne 0\ne 0\na 0\n0\n"},
		// of what Check does not take it tells what is there
		{formula(-1, list(forall(0, -7, 7, 7)), []int{9}), "p cnf -1 1\na 0 -7 7 7 0\n9 0\n"},
		{formula(0, list(exists(math.MinInt, math.MaxInt))), "p cnf 0 0\ne -9223372036854775808 9223372036854775807 0\n"},
	} {
		if got := qdimacs.Bytes(x.f); string(got) != x.want {
			t.Errorf("Bytes(%v) = %q, want %q", x.f, got, x.want)
		}
		if len(x.f.Blocks) == 0 && !bytes.Equal(qdimacs.Bytes(x.f), dimacs.Bytes(x.f.CNF)) {
			t.Errorf("Bytes(%v) is not as dimacs tells it", x.f)
		}
	}
}

func TestCheck(t *testing.T) {
	for _, x := range []struct {
		f   api.Formula
		pos int
		err error
	}{
		{api.Formula{}, 0, nil},
		{formula(3, nil, []int{1, -3}, nil), 0, nil},
		{formula(3, list(forall(3, 1), exists(2)), []int{1, -3, 3, 3}), 0, nil},
		{formula(3, list(forall(), exists(1), forall(2), exists(3), exists())), 0, nil},
		{formula(0, list(forall(), exists()), nil), 0, nil},
		{formula(api.MaxVars, list(forall(api.MaxVars))), 0, nil},
		{formula(0, slices.Repeat(list(forall()), api.MaxClauses+1)), 0, nil}, // of blocks nothing is said
		// not 1 to Vars
		{formula(3, list(forall(0))), 0, api.ErrRange},
		{formula(3, list(forall(1), exists(4))), 1, api.ErrRange},
		{formula(3, list(forall(1), exists(2, -3))), 1, api.ErrRange},
		{formula(3, list(forall(), exists(), exists(3, 0))), 2, api.ErrRange},
		{formula(0, list(exists(), forall(1))), 1, api.ErrRange},
		{formula(3, list(forall(math.MinInt))), 0, api.ErrRange},
		{formula(3, list(exists(), forall(math.MaxInt))), 1, api.ErrRange},
		{formula(3, list(exists(-1<<62), forall(0))), 0, api.ErrRange},
		// it was there
		{formula(3, list(forall(1, 1))), 0, api.ErrRange},
		{formula(3, list(forall(1, 2), exists(3, 1))), 1, api.ErrRange},
		{formula(3, list(forall(1), exists(2), forall(1), exists(2))), 2, api.ErrRange},
		// the first block
		{formula(3, list(forall(1), exists(1), forall(9))), 1, api.ErrRange},
		{formula(3, list(forall(1), exists(9), forall(1))), 1, api.ErrRange},
		// what lits.Check says goes ahead, around a clause's place
		{formula(3, list(forall(9)), nil, nil, []int{4}), 2, api.ErrRange},
		{formula(3, list(forall(1), exists(2, 2)), []int{0}), 0, api.ErrRange},
	} {
		if err := qdimacs.Check(x.f); !isAt(err, x.pos, x.err) {
			t.Errorf("Check(%.200s) = %v, want %d: %v", fmt.Sprint(x.f), err, x.pos, x.err)
		}
	}
}

func TestCheckLimits(t *testing.T) {
	lines := func(n int) [][]int { return make([][]int, n) }
	long := func(n int) []int { return slices.Repeat([]int{1}, n) }
	for _, x := range []struct {
		f   api.Formula
		err error
	}{
		{formula(api.MaxVars, nil), nil},
		{formula(api.MaxVars+1, nil), api.ErrLimit},
		{formula(-1, nil), api.ErrLimit},
		{formula(math.MaxInt, list(forall(0))), api.ErrLimit}, // alone, ahead of a block's
		{formula(math.MinInt, list(forall(1))), api.ErrLimit},
		{formula(1, nil, lines(api.MaxClauses)...), nil},
		{formula(1, list(forall(2)), lines(api.MaxClauses+1)...), api.ErrLimit},
		{formula(1, list(exists(1)), long(api.MaxLits)), nil}, // a block's variables are no literals
		{formula(1, list(exists(1, 1)), long(api.MaxLits), long(1)), api.ErrLimit},
	} {
		if err := qdimacs.Check(x.f); err != x.err {
			t.Errorf("Check(%.60s) = %v, want %v", fmt.Sprint(x.f), err, x.err)
		}
	}
}

// back tells where Read of Bytes of f is not f, or Check does not take it.
func back(t *testing.T, f api.Formula) {
	t.Helper()
	if err := qdimacs.Check(f); err != nil {
		t.Fatal(err)
	}
	checkRead(t, string(qdimacs.Bytes(f)), f, 0, nil)
}

// everyPrefix calls f with each prefix of at most most blocks of variables 0 to 3
// (0 is none), at most two in a block.
func everyPrefix(blocks []api.Block, most int, f func([]api.Block)) {
	f(blocks)
	if most == 0 {
		return
	}
	lists := [][]int{nil}
	for v := range 4 {
		lists = append(lists, []int{v})
		for u := range 4 {
			lists = append(lists, []int{v, u})
		}
	}
	for i, vars := range lists {
		next := api.Block{Exists: i%2 == 0, Vars: vars}
		everyPrefix(append(slices.Clone(blocks), next), most-1, f)
	}
}

// amiss is the first block with a variable that is not 1 to vars, or was there; -1: none.
func amiss(blocks []api.Block, vars int) int {
	var met []int
	for i, b := range blocks {
		for _, v := range b.Vars {
			if v < 1 || v > vars || slices.Contains(met, v) {
				return i
			}
			met = append(met, v)
		}
	}
	return -1
}

func TestCheckOfAll(t *testing.T) {
	right := 0
	everyPrefix(nil, 3, func(blocks []api.Block) {
		f := formula(2, blocks, []int{1, -2}, nil)
		where := amiss(blocks, 2)
		if where < 0 {
			right++
			back(t, f)
			return
		}
		if err := qdimacs.Check(f); !isAt(err, where, api.ErrRange) {
			t.Fatalf("Check(%v) = %v, want %d", f, err, where)
		}
	})
	if right < 20 {
		t.Errorf("only %d prefixes are right", right)
	}
}

func TestBack(t *testing.T) {
	back(t, api.Formula{})
	back(t, formula(api.MaxVars, nil))
	back(t, formula(5, list(forall(5, 1), exists(), exists(2), forall(3)), []int{5, -5, 5, 1}, nil, []int{4}))
	back(t, formula(1, slices.Repeat(list(forall(), exists()), 100000), []int{1}))
	var up, down []int
	for v := range api.MaxVars / 2 {
		up, down = append(up, v+1), append(down, api.MaxVars-v)
	}
	back(t, formula(api.MaxVars, list(exists(down...), forall(up...)), slices.Repeat([]int{-api.MaxVars}, api.MaxLits)))
	back(t, formula(9, list(exists(9), forall(1)), slices.Repeat([][]int{{1, -2, 3, -4}}, api.MaxClauses)...))
	// Bytes of what Read takes is the same text, however it was written.
	f, _ := qdimacs.Read([]byte("c x\np cnf 3 2\ne\n02\n-0\nc\na 3 1 0 1\n-002 -0\nc\n3 0"))
	if got := string(qdimacs.Bytes(f)); got != "p cnf 3 2\ne 2 0\na 3 1 0\n1 -2 0\n3 0\n" {
		t.Errorf("%q", got)
	}
}

// TestMemory: what is handed in is neither changed nor kept, and no two lists
// that are handed out share memory, spare room too.
func TestMemory(t *testing.T) {
	const text = "p cnf 4 2\na 1 2 4 0\ne 3 0\na 0\n1 -2 3 0\n3 0\n"
	want := func() api.Formula {
		return formula(4, list(forall(1, 2, 4), exists(3), forall()), []int{1, -2, 3}, []int{3})
	}
	whole := []byte(text + "1 0\n")
	b := whole[:len(text)] // behind it: a clause too many
	f, err := qdimacs.Read(b)
	g, _ := qdimacs.Read(b)
	if err != nil || string(whole) != text+"1 0\n" {
		t.Fatal(err, string(whole))
	}
	fill(whole, '#')
	if !same(f, want()) || !same(g, want()) {
		t.Fatal(f, g)
	}
	one, other := qdimacs.Bytes(f), qdimacs.Bytes(f)
	if err := qdimacs.Check(f); err != nil || !same(f, want()) {
		t.Error("the formula is changed", f, err)
	}
	fill(one, '#')
	if string(other) != text || !same(f, want()) {
		t.Error("texts share memory", string(other))
	}
	var lists [][]int
	for _, b := range f.Blocks {
		lists = append(lists, b.Vars)
	}
	lists = append(lists, f.CNF.Clauses...)
	old := [][]int{{1, 2, 4}, {3}, {}, {1, -2, 3}, {3}}
	for i := range lists { // all of one is overwritten: the others show nothing of it
		fill(lists[i], 99)
		if !slices.EqualFunc(lists[i+1:], old[i+1:], slices.Equal[[]int]) {
			t.Error("lists share memory", i, lists)
		}
	}
	fill(f.Blocks, exists(9))
	fill(f.CNF.Clauses, nil)
	if !same(g, want()) {
		t.Error("answers share memory", g)
	}
}

// TestBehind: what lies behind the length of what is handed in is neither read
// nor written.
func TestBehind(t *testing.T) {
	vars, blocks, clauses := []int{1, 2, 2}, list(forall(3), exists(3)), [][]int{{1}, {9}}
	blocks[0].Vars = vars[:2]
	f := formula(3, blocks[:1], clauses[:1]...)
	if err := qdimacs.Check(f); err != nil {
		t.Error(err)
	}
	if got := string(qdimacs.Bytes(f)); got != "p cnf 3 1\na 1 2 0\n1 0\n" {
		t.Errorf("%q", got)
	}
	if !slices.Equal(vars, []int{1, 2, 2}) || !blocks[1].Exists || !slices.Equal(blocks[1].Vars, []int{3}) || clauses[1][0] != 9 {
		t.Error(vars, blocks, clauses)
	}
}

// fill writes x all over list, its spare room too.
func fill[T any](list []T, x T) {
	list = list[:cap(list)]
	for i := range list {
		list[i] = x
	}
}
