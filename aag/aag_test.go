package aag_test

import (
	"bytes"
	"fmt"
	"math"
	"slices"
	"strconv"
	"strings"
	"testing"

	"skolem/aag"
	"skolem/api"
	"skolem/gate"
	"skolem/graph"
	"skolem/word"
)

// isAt tells whether err is this one around this place, and nothing more (none: nil).
func isAt(err error, pos int, this error) bool {
	if this == nil {
		return err == nil
	}
	a, ok := err.(*api.At)
	return ok && a.Pos == pos && a.Err == this
}

// same tells whether a and b are the same circuit.
func same(a, b api.Circuit) bool {
	return a.Inputs == b.Inputs && slices.Equal(a.Ands, b.Ands) && slices.Equal(a.Outs, b.Outs)
}

// checkRead tells where Read of text does not answer this.
func checkRead(t *testing.T, text string, want api.Circuit, pos int, wantErr error) {
	t.Helper()
	c, err := aag.Read([]byte(text))
	if !same(c, want) || !isAt(err, pos, wantErr) {
		t.Errorf("Read(%.100q) = %.200v, %v", text, fmt.Sprint(c), err)
	}
}

// some has a gate that no output needs, one gate twice, and outputs of each kind.
func some() api.Circuit {
	return api.Circuit{Inputs: 2, Ands: [][2]int{{4, 2}, {6, 5}, {8, 8}, {4, 2}, {1, 0}}, Outs: []int{13, 0, 1, 3, 13, 8}}
}

const someText = "aag 7 2 0 6 5\n2\n4\n13\n0\n1\n3\n13\n8\n6 4 2\n8 6 5\n10 8 8\n12 4 2\n14 1 0\n"

func TestRead(t *testing.T) {
	for _, x := range []struct {
		text string
		want api.Circuit
	}{
		{"aag 0 0 0 0 0", api.Circuit{}},
		{"aag 0 0 0 0 0\n", api.Circuit{}},
		{"aag 3 3 0 0 0\n2\n4\n6\n", api.Circuit{Inputs: 3}},
		{"aag 0 0 0 3 0\n0\n1\n0\n", api.Circuit{Outs: []int{0, 1, 0}}},
		{"aag 1 1 0 1 0\n2\n3", api.Circuit{Inputs: 1, Outs: []int{3}}},
		{"aag 1 0 0 1 1\n3\n2 1 1", api.Circuit{Outs: []int{3}, Ands: [][2]int{{1, 1}}}},
		{"aag 2 0 0 0 2\n2 0 0\n4 3 2\n", api.Circuit{Ands: [][2]int{{0, 0}, {3, 2}}}},
		{someText, some()},
		// blanks, lines of nothing, noughts ahead of a number
		{"\n\r\n\t aag\t1 \r1 0\t1  0 \r\n\n  2\t\n\r\n\t3\n\n \n", api.Circuit{Inputs: 1, Outs: []int{3}}},
		{"aag 002 000000001 00 01 1\n02\n000000005\n04 0003 00002\n", api.Circuit{Inputs: 1, Outs: []int{5}, Ands: [][2]int{{3, 2}}}},
		// what is behind counts for nothing
		{"aag 0 0 0 0 0\nc", api.Circuit{}},
		{"aag 0 0 0 0 0\nc\n", api.Circuit{}},
		{"aag 0 0 0 0 0\n\n \tc\nx -1\n2 2 2\naag 9 9 9 9 9\n", api.Circuit{}},
		{"aag 0 0 0 0 0\ncircuit of nothing\n0\n", api.Circuit{}},
		{"aag 0 0 0 0 0\nc\x00\xff\x00 \xfe\nb", api.Circuit{}},
		{"aag 1 1 0 1 0\n2\n3\nc 4\n5 6 7\n", api.Circuit{Inputs: 1, Outs: []int{3}}},
		{someText + "c\n16 2 2\n", some()},
	} {
		checkRead(t, x.text, x.want, 0, nil)
	}
}

func TestReadHeadAmiss(t *testing.T) {
	for _, x := range []struct {
		text string
		pos  int
	}{
		// words that lack
		{"", 0},
		{" \n\t\r", 4},
		{"aag", 3},
		{"aag 0 0 0 0", 11},
		{"aag 0 0 0 0 \n\n", 14},
		{"aag 8001 8001 0 0", 17}, // all six are looked at ahead of the limits
		{"aag 1 0 1 8001", 14},
		// other words
		{"aig 0 0 0 0 0", 0},
		{"AAG 0 0 0 0 0", 0},
		{" aagg 0 0 0 0 0", 1},
		{"aag0 0 0 0 0", 0},
		{"\n0 0 0 0 0", 1},
		{"c\naag 0 0 0 0 0", 0}, // no line is left out
		{"aag x 0 0 0 0", 4},
		{"aag 0 x 0 0 0", 6},
		{"aag 0 0 x 0 0", 8},
		{"aag 0 0 0 x 0", 10},
		{"aag 0 0 0 0 x", 12},
		{"aag 0 0 0 0 +0", 12},
		{"aag 0 0 0 0 0c", 12},
		{"aag 0 0.0 0 0 0", 6},
		{"aag 0 0 0\x00 0 0", 8},
		// with a minus
		{"aag -0 0 0 0 0", 4},
		{"aag 0 -0 0 0 0", 6},
		{"aag 0 0 -0 0 0", 8},
		{"aag 0 0 0 -0 0", 10},
		{"aag 0 0 0 0 -0", 12},
		{"aag -1 0 0 0 0", 4},
		{"aag 0 -8001 0 0 0", 6},
		{"aag 1 2 0 0 -1", 12},
		// longer than a number is
		{"aag 0000000000 0 0 0 0", 4},
		{"aag 0 1000000000 0 0 0", 6},
		{"aag 0 0 0 99999999999999999999 0", 10},
		// on another line
		{"aag\n0 0 0 0 0", 4},
		{"aag 0\n0 0 0 0", 6},
		{"aag 0 0\n0 0 0", 8},
		{"aag 0 0 0\n0 0", 10},
		{"aag 0 0 0 0\n0", 12},
		{"aag 8001 8001 0 0\n0", 18},
		{"aag 0 0 0 0\nc\n0", 12},
		// the first one that is amiss, ahead of the limits, and of M and L
		{"aag 8001 8001 x -1 0", 14},
		{"aag 1 8001 1 8001 x", 18},
		{"aag 1 0 1 0 x", 12},
		{"aig 1 8001 1 8001 8001", 0},
		// M, then L
		{"aag 1 0 0 0 0", 4},
		{"aag 0 1 0 0 0\n2", 4},
		{"aag 0 0 0 0 1\n2 0 0", 4},
		{"aag 4 2 0 0 1\n2\n4\n6 2 2", 4},
		{"aag 2 2 0 0 1\n2\n4\n6 2 2", 4},
		{"aag 999999999 8000 0 8000 0", 4},
		{"aag 1 0 1 0 0\n2 2", 4},
		{"aag 0 0 1 0 0", 8},
		{"aag 1 1 999999999 0 0\n2\n", 8},
		{"aag 1 1 1 0 0\n2\n2 2", 8},
		{"aag 1 1 1 0 0\nx", 8}, // ahead of what stands behind the line
		// more words on the line: they are behind all that it tells
		{"aag 0 0 0 0 0 0", 14},
		{"aag 0 0 0 0 0 c", 14},
		{"aag 1 1 0 0 0 2", 14},
		{"aag 1 0 0 0 0 c", 4},
		{"aag 0 0 1 0 0 c", 8},
	} {
		checkRead(t, x.text, api.Circuit{}, x.pos, api.ErrText)
	}
}

func TestReadLinesAmiss(t *testing.T) {
	const in, out, gates = "aag 2 2 0 0 0\n", "aag 2 1 0 2 1\n2\n", "aag 4 2 0 0 2\n2\n4\n6 3 3\n"
	for _, x := range []struct {
		head, text string
		pos        int // behind the head
	}{
		// inputs
		{in, "", 0},
		{in, " \n\n", 3},
		{in, "2", 1},
		{in, "2\n", 2},
		{in, "4\n2", 0},
		{in, "3\n4", 0},
		{in, "0\n4", 0},
		{in, "-2\n4", 0},
		{in, "x\n4", 0},
		{in, "c\n2\n4", 0},
		{in, "2\n2", 2},
		{in, "2\n6", 2},
		{in, "2\n5", 2},
		{in, "2\nc\n4", 2},
		{in, "2 4", 2},
		{in, "2 c\n4", 2},
		{in, "2\n4 c", 4},
		{in, "2\n4\n6", 4},
		{in, "2\n0000000004", 2},
		// outputs
		{out, "", 0},
		{out, "4\n", 2},
		{out, "6\n0\n4 2 2\n", 0},
		{out, "0\n6\n4 2 2\n", 2},
		{out, "-0\n0\n4 2 2\n", 0},
		{out, "0\n-1\n4 2 2\n", 2},
		{out, "x\n0\n4 2 2\n", 0},
		{out, "0 0\n4 2 2\n", 2},
		{out, "0\n0 4 2 2\n", 4},
		{out, "0\n0 c\n4 2 2\n", 4},
		{out, "0\nc\n4 2 2\n", 2},
		{out, "0\n4 2 2\n", 4},
		{out, "9\n9\n9 9 9\n", 0},
		// gates
		{gates, "", 0},
		{gates, "8", 1},
		{gates, "8 7", 3},
		{gates, "8 7\n", 4},
		{gates, "6 3 3", 0},
		{gates, "9 3 3", 0},
		{gates, "10 3 3", 0},
		{gates, "7 3 3", 0},
		{gates, "c\n8 3 3", 0},
		{gates, "-8 3 3", 0},
		{gates, "8 8 3", 2},
		{gates, "8 9 3", 2},
		{gates, "8 999999999 3", 2},
		{gates, "8 1000000000 3", 2},
		{gates, "8 -3 3", 2},
		{gates, "8 -0 0", 2},
		{gates, "8 c 3", 2},
		{gates, "8\n3 3", 2},
		{gates, "8 3 4", 4},
		{gates, "8 0 1", 4},
		{gates, "8 3 -1", 4},
		{gates, "8 3 -0", 4},
		{gates, "8 3 x", 4},
		{gates, "8 3\n3", 4},
		{gates, "8 3\nc", 4},
		{gates, "8 8 9", 2},
		// behind
		{gates, "8 3 3 3", 6},
		{gates, "8 3 3 c", 6},
		{gates, "8 7 6\n8 7 6", 6},
		{gates, "8 7 6\n10 7 6", 6},
		{gates, "8 7 6\ni0 x", 6},
		{gates, "8 7 6\nC", 6},
		{gates, "8 7 6\n \n\x00c", 8},
		{gates, "8 7 6\nx\nc", 6},
	} {
		checkRead(t, x.head+x.text, api.Circuit{}, len(x.head)+x.pos, api.ErrText)
	}
}

func TestReadLimits(t *testing.T) {
	for _, x := range []struct {
		head string
		pos  int
	}{
		{"aag 8001 8001 0 0 0", 9},
		{"aag 8001 0 0 0 8001", 15},
		{"aag 8001 8000 0 0 1", 18},
		{"aag 8001 1 0 0 8000", 15},
		{"aag 16000 8000 0 0 8000", 19},
		{"aag 0 0 0 8001 0", 10},
		{"aag 0 0 0 999999999 0", 10},
		{"aag 0 999999999 0 0 0", 6},
		{"aag 0 0 0 0 999999999", 12},
		// in this order: I, A, both, O, M, L
		{"aag 0 8001 1 8001 8001", 6},
		{"aag 0 8000 1 8001 1", 18},
		{"aag 0 8000 1 8001 8001", 18},
		{"aag 0 0 1 8001 8001", 15},
		{"aag 0 8000 1 8001 0", 13},
		{"aag 0 8001 0 0 0 c", 6},
		{"aag 0 8001 0 0 0\nx", 6},
		{" \naag 0 08001 0 0 0", 8},
	} {
		checkRead(t, x.head, api.Circuit{}, x.pos, api.ErrLimit)
	}
	checkRead(t, "aag 0 8000 1 8000 0", api.Circuit{}, 4, api.ErrText)
	checkRead(t, "aag 8000 8000 1 8000 0", api.Circuit{}, 14, api.ErrText)
	checkRead(t, "aag 8000 1 0 8000 7999", api.Circuit{}, 22, api.ErrText)
}

func TestReadMaxText(t *testing.T) {
	const text = "aag 1 1 0 0 0\n2\n"
	fill := func(n int) string { return text + strings.Repeat("\n", n-len(text)) }
	one := api.Circuit{Inputs: 1}
	checkRead(t, fill(api.MaxText), one, 0, nil)
	checkRead(t, fill(api.MaxText+1), api.Circuit{}, api.MaxText, api.ErrLimit)
	checkRead(t, "x"+fill(api.MaxText), api.Circuit{}, api.MaxText, api.ErrLimit) // ahead of what is amiss in it
	checkRead(t, text+"c"+strings.Repeat(" x", (api.MaxText-len(text)-1)/2), one, 0, nil)
	checkRead(t, text+"c"+strings.Repeat("x", api.MaxText-len(text)), api.Circuit{}, api.MaxText, api.ErrLimit)
	checkRead(t, "aag 1 1 0 0 0"+strings.Repeat("\n", api.MaxText-13), api.Circuit{}, api.MaxText, api.ErrText)
}

// part is a word of a text, and where it begins.
type part struct {
	text string
	pos  int
}

// lines is the words of each line of text that has some, and then its end as a
// line of one word of nothing.
func lines(text string) [][]part {
	var all [][]part
	pos := 0
	for _, l := range strings.SplitAfter(text, "\n") {
		var line []part
		for _, w := range word.Split([]byte(l), false) {
			line = append(line, part{w.Text, pos + w.Pos})
		}
		if len(line) > 0 {
			all = append(all, line)
		}
		pos += len(l)
	}
	return append(all, []part{{"", len(text)}})
}

// span is the least and the greatest number that a word may be.
type span [2]int

// value is the number of p, that is digits alone; -1, if it is not.
func value(p part) int {
	if strings.Trim(p.text, "0123456789") != "" {
		return -1
	}
	n, err := strconv.Atoi(p.text)
	if err != nil {
		return -1
	}
	return n
}

// amiss is where line is not numbers of these spans, or -1; next is the line
// behind it.
func amiss(line, next []part, spans ...span) int {
	for i, s := range spans {
		if i == len(line) {
			return next[0].pos
		}
		if n := value(line[i]); n < s[0] || n > s[1] {
			return line[i].pos
		}
	}
	if len(line) > len(spans) {
		return line[len(spans)].pos
	}
	return -1
}

// plainlyHead is what is amiss with the first line, or -1; next is the line
// behind it.
func plainlyHead(line, next []part) (int, error) {
	if line[0].text != "aag" {
		return line[0].pos, api.ErrText
	}
	any := span{0, 999999999}
	if pos := amiss(line[1:min(len(line), 6)], next, any, any, any, any, any); pos >= 0 {
		return pos, api.ErrText
	}
	m, i, l, o, a := line[1], line[2], line[3], line[4], line[5]
	for _, x := range []struct {
		bad bool
		pos int
		err error
	}{
		{value(i) > 8000, i.pos, api.ErrLimit},
		{value(a) > 8000, a.pos, api.ErrLimit},
		{value(i)+value(a) > 8000, a.pos, api.ErrLimit},
		{value(o) > 8000, o.pos, api.ErrLimit},
		{value(m) != value(i)+value(a), m.pos, api.ErrText},
		{value(l) != 0, l.pos, api.ErrText},
	} {
		if x.bad {
			return x.pos, x.err
		}
	}
	if len(line) > 6 {
		return line[6].pos, api.ErrText
	}
	return -1, nil
}

// plainly is what Read tells of text, by holding each line against what it may
// be.
func plainly(text string) (api.Circuit, int, error) {
	all := lines(text)
	if len(all) == 1 {
		return api.Circuit{}, len(text), api.ErrText
	}
	if pos, err := plainlyHead(all[0], all[1]); err != nil {
		return api.Circuit{}, pos, err
	}
	c := api.Circuit{Inputs: value(all[0][2])}
	outs, gates := value(all[0][4]), value(all[0][5])
	for k := range c.Inputs + outs + gates {
		line, next := all[k+1], []part(nil)
		if k+2 < len(all) {
			next = all[k+2]
		}
		pos := -1
		switch own := 2 * (k + 1 - outs); {
		case k < c.Inputs:
			own = 2 * (k + 1)
			pos = amiss(line, next, span{own, own})
		case k < c.Inputs+outs:
			pos = amiss(line, next, span{0, 2*(c.Inputs+gates) + 1})
		default:
			second := span{0, -1} // if the first one is amiss, it is never asked for
			if len(line) > 1 {
				second[1] = value(line[1])
			}
			pos = amiss(line, next, span{own, own}, span{0, own - 1}, second)
		}
		switch {
		case pos >= 0:
			return api.Circuit{}, pos, api.ErrText
		case k >= c.Inputs+outs:
			c.Ands = append(c.Ands, [2]int{value(line[1]), value(line[2])})
		case k >= c.Inputs:
			c.Outs = append(c.Outs, value(line[0]))
		}
	}
	if rest := all[1+c.Inputs+outs+gates:]; len(rest) > 1 && rest[0][0].text[0] != 'c' {
		return api.Circuit{}, rest[0][0].pos, api.ErrText
	}
	return c, -1, nil
}

// every calls f with each text that begins with head and goes on with up to
// most of these parts.
func every(head string, parts []string, most int, f func(text string)) {
	f(head)
	if most == 0 {
		return
	}
	for _, p := range parts {
		every(head+p, parts, most-1, f)
	}
}

func TestReadOfAll(t *testing.T) {
	right := 0
	check := func(text string) {
		want, pos, wantErr := plainly(text)
		if wantErr == nil {
			right++
		}
		c, err := aag.Read([]byte(text))
		if !same(c, want) || !isAt(err, pos, wantErr) {
			t.Fatalf("Read(%q) = %v, %v, want %v, %d, %v", text, c, err, want, pos, wantErr)
		}
	}
	every("", []string{"aag ", "0 ", "1 ", "-0 ", "\n", "c"}, 6, check)
	every("aag ", []string{"0 ", "1 ", "2 ", "8000 ", "8001 ", "\n"}, 6, check)
	for _, head := range []string{"aag 2 2 0 0 0\n", "aag 1 1 0 1 0\n", "aag 1 0 0 1 1\n", "aag 2 1 0 0 1\n2\n", "aag 2 1 0 1 1\n2\n", "aag 1 0 0 0 1\n", "aag 0 0 0 2 0\n"} {
		every(head, []string{"0 ", "1 ", "2 ", "03 ", "4 ", "5 ", "\n", "c", "-0 "}, 5, check)
	}
	for _, head := range []string{"aag 2 1 0 1 1\n", "aag 1 1 0 2 0\n", "aag 2 0 0 1 2\n", "aag 2 2 0 2 0\n"} {
		every(head, []string{"2\n", "4\n", "1\n", "05\n", "2 1 0\n", "2 1 1\n", "4 3 2\n", "\n", "c"}, 5, check)
	}
	if right < 500 {
		t.Errorf("only %d texts are right", right)
	}
}

func TestBytes(t *testing.T) {
	for _, x := range []struct {
		c    api.Circuit
		want string
	}{
		{api.Circuit{}, "aag 0 0 0 0 0\n"},
		{api.Circuit{Ands: [][2]int{}, Outs: []int{}}, "aag 0 0 0 0 0\n"},
		{api.Circuit{Inputs: 3}, "aag 3 3 0 0 0\n2\n4\n6\n"},
		{api.Circuit{Outs: []int{1, 0}}, "aag 0 0 0 2 0\n1\n0\n"},
		{api.Circuit{Ands: [][2]int{{1, 0}, {3, 3}}}, "aag 2 0 0 0 2\n2 1 0\n4 3 3\n"},
		{some(), someText},
		// of what is not right it tells what is there; a count below 0 is none
		{api.Circuit{Inputs: 1, Ands: [][2]int{{2, 4}}, Outs: []int{-1, 99}}, "aag 2 1 0 2 1\n2\n-1\n99\n4 2 4\n"},
		{api.Circuit{Outs: []int{math.MinInt, math.MaxInt}}, "aag 0 0 0 2 0\n-9223372036854775808\n9223372036854775807\n"},
		{api.Circuit{Inputs: -1, Ands: [][2]int{{0, 0}}}, "aag 1 0 0 0 1\n2 0 0\n"},
		{api.Circuit{Inputs: math.MinInt}, "aag 0 0 0 0 0\n"},
		// of more inputs than there may be bytes, none
		{api.Circuit{Inputs: math.MaxInt}, ""},
		{api.Circuit{Inputs: math.MaxInt, Ands: [][2]int{{0, 0}}}, ""},
		{api.Circuit{Inputs: math.MaxInt32}, ""},
	} {
		if got := aag.Bytes(x.c); string(got) != x.want {
			t.Errorf("Bytes(%v) = %.100q, want %q", x.c, got, x.want)
		}
	}
}

// back tells where Read of Bytes of c is not c.
func back(t *testing.T, c api.Circuit) {
	t.Helper()
	if err := graph.Check(c); err != nil {
		t.Fatal(err)
	}
	checkRead(t, string(aag.Bytes(c)), c, 0, nil)
}

// TestBackOfAll: each circuit of up to two inputs, two gates and two outputs.
func TestBackOfAll(t *testing.T) {
	var more func(c api.Circuit)
	outs := func(c api.Circuit) {
		back(t, c)
		last := 2*(c.Inputs+len(c.Ands)) + 1
		for a := range last + 1 {
			c.Outs = []int{a}
			back(t, c)
			for b := range last + 1 {
				c.Outs = []int{a, b}
				back(t, c)
			}
		}
	}
	more = func(c api.Circuit) {
		outs(c)
		if len(c.Ands) == 2 {
			return
		}
		for a := range 2 * (c.Inputs + len(c.Ands) + 1) {
			for b := range a + 1 {
				more(api.Circuit{Inputs: c.Inputs, Ands: append(slices.Clone(c.Ands), [2]int{a, b})})
			}
		}
	}
	for n := range 3 {
		more(api.Circuit{Inputs: n})
	}
}

func TestBackOfMany(t *testing.T) {
	full := func(inputs, outs int) api.Circuit {
		c := api.Circuit{Inputs: inputs}
		for n := inputs + 1; n <= api.MaxNodes; n++ {
			c.Ands = append(c.Ands, [2]int{2*n - 1, 2*n - 1 - n%2})
		}
		for i := range outs {
			c.Outs = append(c.Outs, (2*api.MaxNodes+1)-i)
		}
		return c
	}
	for _, inputs := range []int{0, 1, 4000, api.MaxNodes - 1, api.MaxNodes} {
		back(t, full(inputs, 0))
		back(t, full(inputs, api.MaxNodes))
	}
	// the greatest numbers that Read takes, and those above them
	text := string(aag.Bytes(full(api.MaxNodes, 1)))
	long := len(text) - len("16001\n")
	checkRead(t, text[:long]+"16002\n", api.Circuit{}, long, api.ErrText)
	// more Outs than Read takes, though the circuit is right
	c := full(0, 0)
	c.Outs = make([]int, api.MaxNodes+1)
	checkRead(t, string(aag.Bytes(c)), api.Circuit{}, len("aag 8000 0 0 "), api.ErrLimit)
	checkRead(t, string(aag.Bytes(api.Circuit{Inputs: api.MaxNodes + 1})), api.Circuit{}, len("aag 8001 "), api.ErrLimit)
	// what a graph makes is one
	g := graph.New(20)
	l := 0
	for i := range 20 {
		l = gate.Xor(g, l, g.Input(i))
	}
	back(t, g.Circuit(l, graph.Not(l)))
}

// TestMemory: what is handed in is neither changed nor kept, and no two lists
// that are handed out share memory, spare room too.
func TestMemory(t *testing.T) {
	const behind = "16 2 2\n"
	whole := []byte(someText + behind)
	b := whole[:len(someText)]
	c, err := aag.Read(b)
	d, _ := aag.Read(b)
	if err != nil || string(whole) != someText+behind {
		t.Fatal(err, string(whole))
	}
	fill(whole, '#')
	fill(c.Outs, 99)
	if !slices.Equal(c.Ands, some().Ands) || !same(d, some()) {
		t.Error("outputs share memory", c, d)
	}
	fill(c.Ands, [2]int{99, 99})
	if !same(d, some()) {
		t.Error("gates share memory", d)
	}
	e := api.Circuit{Inputs: 2, Ands: append(some().Ands, [2]int{9, 9})[:5], Outs: append(some().Outs, 9)[:6]}
	one, other := aag.Bytes(e), aag.Bytes(e)
	fill(one, '#')
	if !same(e, some()) || e.Ands[:6][5] != [2]int{9, 9} || e.Outs[:7][6] != 9 || !bytes.Equal(other, []byte(someText)) {
		t.Error("texts share memory", e, string(other))
	}
}

// fill writes x all over list, its spare room too.
func fill[T any](list []T, x T) {
	list = list[:cap(list)]
	for i := range list {
		list[i] = x
	}
}
