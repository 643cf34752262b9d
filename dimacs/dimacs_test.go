package dimacs_test

import (
	"bytes"
	"errors"
	"fmt"
	"math"
	"slices"
	"strings"
	"testing"

	"skolem/api"
	"skolem/dimacs"
	"skolem/lits"
	"skolem/word"
)

// tell is an error's place and what it is around; -1 where it has none.
func tell(err error) (int, error) {
	var a *api.At
	if errors.As(err, &a) {
		return a.Pos, a.Err
	}
	return -1, err
}

// isAt tells whether err is this one around this place, and nothing more (none: nil).
func isAt(err error, pos int, this error) bool {
	if this == nil {
		return err == nil
	}
	a, ok := err.(*api.At)
	return ok && a.Pos == pos && a.Err == this
}

// same tells whether a and b are the same clauses, in order.
func same(a, b [][]int) bool { return slices.EqualFunc(a, b, slices.Equal[[]int]) }

// checkRead tells where Read of text does not answer this.
func checkRead(t *testing.T, text string, want api.CNF, pos int, wantErr error) {
	t.Helper()
	c, err := dimacs.Read([]byte(text))
	if c.Vars != want.Vars || !same(c.Clauses, want.Clauses) || !isAt(err, pos, wantErr) {
		t.Errorf("Read(%.100q) = %.200v, %v", text, fmt.Sprint(c), err)
	}
}

func TestRead(t *testing.T) {
	for _, x := range []struct {
		text    string
		vars    int
		clauses [][]int
	}{
		{"p cnf 0 0", 0, nil},
		{"p cnf 0 0\n", 0, nil},
		{"p cnf 3 2\n1 -2 0\n3 0\n", 3, [][]int{{1, -2}, {3}}},
		{"p cnf 3 2\n1 -2 0\n3 0", 3, [][]int{{1, -2}, {3}}},
		{"p cnf 3 2 1 -2 0 3 0", 3, [][]int{{1, -2}, {3}}},          // all on the head's line
		{"p cnf 3 2\n1\n-2\n\n0 3\n0", 3, [][]int{{1, -2}, {3}}},    // lines end anywhere
		{"p cnf 3 2 1\n-2 0 3 0\n", 3, [][]int{{1, -2}, {3}}},       // a clause begins on the head's line
		{"p cnf 2 3\n0 0 0\n", 2, [][]int{nil, nil, nil}},           // clauses of nothing
		{"p cnf 0 1\n0\n", 0, [][]int{nil}},                         // no variable
		{"p cnf 3 1\n3 1 3 -3 1 0\n", 3, [][]int{{3, 1, 3, -3, 1}}}, // as it stands there
		{"p cnf 3 2\n1 -0 -2 -0", 3, [][]int{{1}, {-2}}},            // -0 is 0
		{"p cnf 3 2\n001 -002 00 -00000003 000000000", 3, [][]int{{1, -2}, {-3}}},
		{"p cnf 003 000000001\n3 0\n", 3, [][]int{{3}}},
		{"\n\r\n \t p\tcnf\r3 \t 1\r\n\r\n\t-3 0 \r\n\n", 3, [][]int{{-3}}},
		{"c\nc p cnf 9 9\ncnf\np cnf 3 2\nc 1\n1\nc 2 0\n -2 0\n  c\n3 0\ncc", 3, [][]int{{1, -2}, {3}}},
		{"p cnf 4000 1\n4000 -4000 0\n", 4000, [][]int{{4000, -4000}}},
	} {
		checkRead(t, x.text, api.CNF{Vars: x.vars, Clauses: x.clauses}, 0, nil)
	}
}

func TestReadAmiss(t *testing.T) {
	for _, x := range []struct {
		text string
		pos  int
		err  error
	}{
		// words of the head that lack
		{"", 0, api.ErrText},
		{" \n\t", 3, api.ErrText},
		{"c p cnf 1 1\n", 12, api.ErrText},
		{"p", 1, api.ErrText},
		{"p cnf", 5, api.ErrText},
		{"p cnf \n", 7, api.ErrText},
		{"p cnf 3", 7, api.ErrText},
		{"p cnf 3\nc 2\n", 12, api.ErrText},
		// other words
		{"q cnf 3 2", 0, api.ErrText},
		{"P cnf 3 2", 0, api.ErrText},
		{"pcnf 3 2", 0, api.ErrText},
		{"\n  1 0", 3, api.ErrText},
		{"p CNF 3 2", 2, api.ErrText},
		{"p dnf 3 2", 2, api.ErrText},
		{"p cnf3 2", 2, api.ErrText},
		{"p cnf x 2", 6, api.ErrText},
		{"p cnf 3 x", 8, api.ErrText},
		{"p cnf 3.0 2", 6, api.ErrText},
		{"p cnf +3 2", 6, api.ErrText},
		{"p cnf 3\x00 2", 6, api.ErrText},
		{"p cnf 3 2x", 8, api.ErrText},
		// with a minus
		{"p cnf -3 2", 6, api.ErrText},
		{"p cnf -0 0", 6, api.ErrText},
		{"p cnf 3 -2", 8, api.ErrText},
		{"p cnf 3 -0", 8, api.ErrText},
		{"p cnf -4001 2", 6, api.ErrText},
		{"p cnf 3 -20001", 8, api.ErrText},
		// on another line
		{"p\ncnf 3 2", 9, api.ErrText}, // a comment, so that words lack
		{"p cnf\n3 2", 6, api.ErrText},
		{"p cnf 3\n2", 8, api.ErrText},
		{"p cnf\n4001 2", 6, api.ErrText},
		{"p cnf 3\n20001", 8, api.ErrText},
		{"p cnf 3\nc\n2", 10, api.ErrText},
		// above the limits, or no number at all
		{"p cnf 4001 0", 6, api.ErrLimit},
		{"p cnf 0 20001", 8, api.ErrLimit},
		{"p cnf 999999999 0", 6, api.ErrLimit},
		{"p cnf 1000000000 0", 6, api.ErrText},
		{"p cnf 0 999999999", 8, api.ErrLimit},
		{"p cnf 0 0000000001", 8, api.ErrText},
		{"p cnf 99999999999999999999 0", 6, api.ErrText},
		// the first one that is amiss
		{"p cnf 4001 x", 6, api.ErrLimit},
		{"p cnf x 20001", 6, api.ErrText},
		{"p cnf 4001", 6, api.ErrLimit},
		{"p cnf 4001 20001 z", 6, api.ErrLimit},
		{"p cnf 3 20001 4", 8, api.ErrLimit},
		{"p dnf 4001", 2, api.ErrText},
		// clauses that lack, or do not end
		{"p cnf 3 1", 9, api.ErrText},
		{"p cnf 3 1\n\n", 11, api.ErrText},
		{"p cnf 3 1\n1", 11, api.ErrText},
		{"p cnf 3 1\n1 2 -3\n", 17, api.ErrText},
		{"p cnf 3 2\n1 0", 13, api.ErrText},
		{"p cnf 3 2\n1 0\n2\n", 16, api.ErrText},
		{"p cnf 3 2\n1 0\nc 2 0\n", 20, api.ErrText},
		// a literal that is none
		{"p cnf 3 1\n4 0", 10, api.ErrText},
		{"p cnf 3 1\n-4 0", 10, api.ErrText},
		{"p cnf 3 1\n1 4001 0", 12, api.ErrText},
		{"p cnf 0 1\n1 0", 10, api.ErrText},
		{"p cnf 3 1\n1 x 0", 12, api.ErrText},
		{"p cnf 3 1\n1 +2 0", 12, api.ErrText},
		{"p cnf 3 1\n1 - 0", 12, api.ErrText},
		{"p cnf 3 1\n1 --2 0", 12, api.ErrText},
		{"p cnf 3 1\n0000000001 0", 10, api.ErrText},
		{"p cnf 3 1\n1 0.0", 12, api.ErrText},
		{"p cnf 3 1\n1 2c 0", 12, api.ErrText},
		{"p cnf 3 1\n1 c\n0", 12, api.ErrText},
		{"p cnf 3 1\na 1 0\n1 0\n", 10, api.ErrText},
		{"p cnf 3 1\np cnf 3 1\n", 10, api.ErrText},
		{"p cnf 3 1\n4 x", 10, api.ErrText},
		{"p cnf 3 1\n%\n0", 10, api.ErrText},
		// behind the last clause
		{"p cnf 0 0 0", 10, api.ErrText},
		{"p cnf 3 0\n1 0", 10, api.ErrText},
		{"p cnf 3 1\n1 0 0", 14, api.ErrText},
		{"p cnf 3 1\n1 0\n2 0\n", 14, api.ErrText},
		{"p cnf 3 1\n1 0\n%\n0\n", 14, api.ErrText},
		{"p cnf 3 1\n1 0 c", 14, api.ErrText},
	} {
		checkRead(t, x.text, api.CNF{}, x.pos, x.err)
	}
}

func TestReadLimits(t *testing.T) {
	const head = "p cnf 3 1\n1 0"
	fill := func(n int) string { return head + strings.Repeat("\n", n-len(head)) }
	checkRead(t, fill(api.MaxText), api.CNF{Vars: 3, Clauses: [][]int{{1}}}, 0, nil)
	checkRead(t, fill(api.MaxText+1), api.CNF{}, api.MaxText, api.ErrLimit)
	checkRead(t, "x"+fill(api.MaxText), api.CNF{}, api.MaxText, api.ErrLimit) // ahead of what is amiss in it
	checkRead(t, "c"+strings.Repeat("x", api.MaxText-1), api.CNF{}, api.MaxText, api.ErrText)

	checkRead(t, "p cnf 0 20000\n"+strings.Repeat("0 ", 20000), api.CNF{Clauses: make([][]int, api.MaxClauses)}, 0, nil)
	checkRead(t, "p cnf 0 20000\n"+strings.Repeat("0 ", 19999), api.CNF{}, 14+2*19999, api.ErrText)
	checkRead(t, "p cnf 0 20000\n"+strings.Repeat("0 ", 20001), api.CNF{}, 14+2*20000, api.ErrText)

	// MaxLits literals, the last half of them in a clause of its own
	const ahead = "p cnf 1 3\n"
	half := strings.Repeat("1 ", api.MaxLits/2)
	full := ahead + half + "0\n" + half
	list := slices.Repeat([]int{1}, api.MaxLits/2)
	checkRead(t, full+"0 -0", api.CNF{Vars: 1, Clauses: [][]int{list, list, nil}}, 0, nil)
	checkRead(t, full+"-1 0 0", api.CNF{}, len(full), api.ErrLimit)
	checkRead(t, full+"1 x", api.CNF{}, len(full), api.ErrLimit)
	checkRead(t, full+"0 -1 0", api.CNF{}, len(full)+2, api.ErrLimit)
	checkRead(t, full+"2 1", api.CNF{}, len(full), api.ErrText) // not right, ahead of being one too many
	checkRead(t, full+"x 1", api.CNF{}, len(full), api.ErrText)
	checkRead(t, full+"0 0 1", api.CNF{}, len(full)+4, api.ErrText) // behind the last clause
	checkRead(t, full, api.CNF{}, len(full), api.ErrText)
}

// words are those of a text that is told otherwise than Read does it.
func words(text string) []word.Word { return word.Split([]byte(text), false) }

func TestHead(t *testing.T) {
	for _, x := range []struct {
		w          []word.Word
		end        int
		vars, many int
		pos        int
		err        error
	}{
		{words("p cnf 3 2"), 9, 3, 2, 0, nil},
		{words("p cnf 0 0\nx y"), 13, 0, 0, 0, nil}, // what follows is not asked for
		{words("p cnf 4000 20000 -1"), 99, 4000, 20000, 0, nil},
		{words("p cnf 4001 2"), 99, 0, 0, 6, api.ErrLimit},
		{words("p cnf 3 20001"), 99, 0, 0, 8, api.ErrLimit},
		{nil, 7, 0, 0, 7, api.ErrText},
		{nil, -7, 0, 0, -7, api.ErrText},
		{nil, math.MaxInt, 0, 0, math.MaxInt, api.ErrText},
		{words("p cnf 3"), 2, 0, 0, 2, api.ErrText},
		{words("x p cnf 3 2")[1:], 99, 0, 0, 2, api.ErrText}, // p is not First
		{words("x\np cnf 3 2")[1:], 99, 3, 2, 0, nil},        // it is
		{words("p cnf 3 2")[1:], 99, 0, 0, 2, api.ErrText},   // no p
		{words("p\ncnf 3 2"), 99, 0, 0, 2, api.ErrText},
		{words("c\np cnf 3 2"), 99, 0, 0, 0, api.ErrText},     // a comment that is there
		{words("p cnf 3 2\n")[:3], 10, 0, 0, 10, api.ErrText}, // behind the length there is nothing
		{[]word.Word{{}}, 99, 0, 0, 0, api.ErrText},
		{[]word.Word{{Text: "p", Pos: -5, First: true}, {Text: "", Pos: -9}}, 99, 0, 0, -9, api.ErrText},
		{[]word.Word{{Text: "p", First: true}, {Text: "cnf"}, {Text: "1"}, {Text: "2", First: true, Pos: 50}}, 99, 0, 0, 50, api.ErrText},
		{[]word.Word{{Text: "p", Pos: 40, First: true}, {Text: "cnf", Pos: 30}, {Text: "1", Pos: 20}, {Text: "-2", Pos: 10}}, 99, 0, 0, 10, api.ErrText},
	} {
		long := 4
		if x.err != nil {
			long = 0
		}
		vars, many, got, err := dimacs.Head(x.w, x.end)
		if vars != x.vars || many != x.many || got != long || !isAt(err, x.pos, x.err) {
			t.Errorf("Head(%v, %d) = %d, %d, %d, %v", x.w, x.end, vars, many, got, err)
		}
	}
}

func TestClauses(t *testing.T) {
	for _, x := range []struct {
		text            string
		end, vars, many int
		want            [][]int
		pos             int
		err             error
	}{
		{"", 5, 3, 0, nil, 0, nil},
		{"", 5, 0, 0, nil, 0, nil},
		{"", 5, 3, 1, nil, 5, api.ErrText},
		{"", -5, 3, 1, nil, -5, api.ErrText},
		{"", 5, 3, math.MaxInt, nil, 5, api.ErrText},
		{"1 0", 5, 3, math.MaxInt, nil, 5, api.ErrText},
		{"1 -2 0\n3 0 0", 12, 3, 3, [][]int{{1, -2}, {3}, nil}, 0, nil},
		{"1 -2 0\n3 0 0", 12, 3, 4, nil, 12, api.ErrText},
		{"1 -2 0\n3 0 0", 12, 3, 2, nil, 11, api.ErrText},
		{"1 -2 0\n3 0 0", 12, 2, 3, nil, 7, api.ErrText},
		{"1 -2 0\n3 0 0", 12, 1, 2, nil, 2, api.ErrText},
		{"1 0", 3, 3, 0, nil, 0, api.ErrText},
		// a count below 0 is none
		{"", 5, 3, -1, nil, 0, nil},
		{"", 5, -1, math.MinInt, nil, 0, nil},
		{"0", 5, 3, -1, nil, 0, api.ErrText},
		{"1 0", 5, -1, 1, nil, 0, api.ErrText},
		{"-1 0", 5, math.MinInt, 1, nil, 0, api.ErrText},
		{"0", 5, -1, 1, [][]int{nil}, 0, nil},
		// the limits of a head are not those of clauses
		{"4001 -999999999 0", 5, math.MaxInt, 1, [][]int{{4001, -999999999}}, 0, nil},
		{"1 c\n0", 5, 3, 1, nil, 2, api.ErrText},
	} {
		got, err := dimacs.Clauses(words(x.text), x.end, x.vars, x.many)
		if !same(got, x.want) || !isAt(err, x.pos, x.err) {
			t.Errorf("Clauses(%q, %d, %d, %d) = %v, %v", x.text, x.end, x.vars, x.many, got, err)
		}
	}
	w := words("1 0 2 0")
	if got, err := dimacs.Clauses(w[:2], 3, 3, 1); !same(got, [][]int{{1}}) || err != nil {
		t.Errorf("Clauses reads behind the length: %v, %v", got, err)
	}
	if got, err := dimacs.Clauses(words(strings.Repeat("0 ", api.MaxClauses+1)), 0, 0, api.MaxClauses+1); len(got) != api.MaxClauses+1 || err != nil {
		t.Errorf("Clauses of many: %d, %v", len(got), err)
	}
	if got, err := dimacs.Clauses(words("-7 0 "+strings.Repeat("-7 ", api.MaxLits)+"0"), 0, 7, 2); len(got) > 0 || !isAt(err, 5+3*(api.MaxLits-1), api.ErrLimit) {
		t.Errorf("Clauses of many literals: %d, %v", len(got), err)
	}
}

// plainly is what Read tells of the words w of a text of end bytes, by asking
// of each word in turn what may stand there; where is the place of what is
// amiss, or -1.
func plainly(w []word.Word, end int) (c api.CNF, where int) {
	counts := []string{"0", "1", "2"}
	for i := range 4 {
		if i == len(w) {
			return api.CNF{}, end
		}
		allowed := [][]string{{"p"}, {"cnf"}, counts, counts}[i]
		if !slices.Contains(allowed, w[i].Text) || w[i].First != (i == 0) {
			return api.CNF{}, w[i].Pos
		}
	}
	c.Vars = slices.Index(counts, w[2].Text)
	many := slices.Index(counts, w[3].Text)
	values := map[string]int{"1": 1, "-2": -2, "3": 3, "0": 0, "-0": 0}
	var open []int
	for _, x := range w[4:] {
		l, ok := values[x.Text]
		if !ok || many == 0 || max(l, -l) > c.Vars {
			return api.CNF{}, x.Pos
		}
		if l == 0 {
			c.Clauses, open = append(c.Clauses, open), nil
			many--
		} else {
			open = append(open, l)
		}
	}
	if many > 0 {
		return api.CNF{}, end
	}
	return c, -1
}

// every calls f with each text that begins with head and goes on with up to
// most of these parts.
func every(head string, parts []string, most int, f func(text string)) {
	f(head)
	if most == 0 {
		return
	}
	for _, p := range parts {
		every(head+p, parts, most-1, f)
	}
}

func TestReadOfAll(t *testing.T) {
	right := 0
	check := func(text string) {
		want, where := plainly(word.Split([]byte(text), true), len(text))
		c, err := dimacs.Read([]byte(text))
		if where < 0 {
			right++
		}
		pos, what := tell(err)
		if c.Vars != want.Vars || !same(c.Clauses, want.Clauses) || pos != where || (what == api.ErrText) != (where >= 0) {
			t.Fatalf("Read(%q) = %v, %v, want %v, %d", text, c, err, want, where)
		}
	}
	every("", []string{"p ", "cnf ", "1 ", "0 ", "-0 ", "\n"}, 6, check)
	for _, head := range []string{"p cnf 2 2 ", "p cnf 1 1\n", "p cnf 0 2\n", "p cnf 2 0\n"} {
		every(head, []string{"1 ", "-2 ", "0 ", "-0 ", "3 ", "x ", "\nc 1 0\n"}, 5, check)
	}
	if right < 500 {
		t.Errorf("only %d texts are right", right)
	}
}

func TestBytes(t *testing.T) {
	for _, x := range []struct {
		c    api.CNF
		want string
	}{
		{api.CNF{}, "p cnf 0 0\n"},
		{api.CNF{Vars: 3}, "p cnf 3 0\n"},
		{api.CNF{Vars: 3, Clauses: [][]int{{1, -2}, {3}}}, "p cnf 3 2\n1 -2 0\n3 0\n"},
		{api.CNF{Vars: 4000, Clauses: [][]int{nil, {-4000, 4000, 4000}, {}}}, "p cnf 4000 3\n0\n-4000 4000 4000 0\n0\n"},
		// of what lits.Check does not take it tells what is there
		{api.CNF{Vars: -1, Clauses: [][]int{{0, 7}}}, "p cnf -1 1\n0 7 0\n"},
		{api.CNF{Vars: math.MaxInt, Clauses: [][]int{{math.MinInt}}}, "p cnf 9223372036854775807 1\n-9223372036854775808 0\n"},
	} {
		if got := dimacs.Bytes(x.c); string(got) != x.want {
			t.Errorf("Bytes(%v) = %q, want %q", x.c, got, x.want)
		}
	}
}

// back tells where Read of Bytes of c is not c.
func back(t *testing.T, c api.CNF) {
	t.Helper()
	if err := lits.Check(c); err != nil {
		t.Fatal(err)
	}
	checkRead(t, string(dimacs.Bytes(c)), c, 0, nil)
}

func TestBack(t *testing.T) {
	back(t, api.CNF{})
	back(t, api.CNF{Vars: api.MaxVars})
	back(t, api.CNF{Vars: 5, Clauses: [][]int{{5, -5, 5, 1}, nil, {}, {1}, {1}}})
	back(t, api.CNF{Vars: 9, Clauses: slices.Repeat([][]int{{1, -2, 3, -4}}, api.MaxClauses)})
	back(t, api.CNF{Vars: 9, Clauses: slices.Repeat([][]int{nil}, api.MaxClauses)})
	back(t, api.CNF{Vars: api.MaxVars, Clauses: [][]int{slices.Repeat([]int{-api.MaxVars}, api.MaxLits)}})
	var some [][]int
	for n := range 1000 {
		var c []int
		for i := range n % 7 {
			c = append(c, (n*31+i*17)%50+1-51*((n+i)%2))
		}
		some = append(some, c)
		if n%50 == 0 {
			back(t, api.CNF{Vars: 50, Clauses: some})
		}
	}
	// Bytes of what Read takes is the same text, however it was written.
	c, _ := dimacs.Read([]byte("c x\np cnf 3 2 1\n-002 -0\nc\n3 0"))
	if got := string(dimacs.Bytes(c)); got != "p cnf 3 2\n1 -2 0\n3 0\n" {
		t.Errorf("%q", got)
	}
}

// TestMemory: what is handed in is neither changed nor kept, and no two lists
// that are handed out share memory, spare room too.
func TestMemory(t *testing.T) {
	const text = "p cnf 3 3\n1 -2 3 0\n3 0\n1 2 0\n"
	want := [][]int{{1, -2, 3}, {3}, {1, 2}}
	whole := []byte(text + "1 0\n")
	b := whole[:len(text)] // behind it: a clause too many
	c, err := dimacs.Read(b)
	if err != nil || string(whole) != text+"1 0\n" {
		t.Fatal(err, string(whole))
	}
	for i := range whole {
		whole[i] = '#'
	}
	w := words(text)
	old := slices.Clone(w)
	d, err := dimacs.Clauses(w[4:], len(text), 3, 3)
	if _, _, _, err := dimacs.Head(w, len(text)); err != nil || !slices.Equal(w, old) {
		t.Error("the words are changed", w, err)
	}
	if err != nil || !same(c.Clauses, want) || !same(d, want) {
		t.Error(c, d, err)
	}
	for i := range c.Clauses { // all of one is overwritten: the others show nothing of it
		fill(c.Clauses[i], 99)
		if !same(c.Clauses[i+1:], want[i+1:]) || !same(d, want) {
			t.Error("clauses share memory", i, c.Clauses, d)
		}
	}
	fill(c.Clauses, nil)
	if !same(d, want) {
		t.Error("answers share memory", d)
	}
	one, other := dimacs.Bytes(api.CNF{Clauses: d}), dimacs.Bytes(api.CNF{Clauses: d})
	fill(one, '#')
	if !same(d, want) || !bytes.Equal(other, dimacs.Bytes(api.CNF{Clauses: d})) {
		t.Error("texts share memory", string(other))
	}
}

// fill writes x all over list, its spare room too.
func fill[T any](list []T, x T) {
	list = list[:cap(list)]
	for i := range list {
		list[i] = x
	}
}
