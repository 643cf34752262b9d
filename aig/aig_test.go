package aig_test

import (
	"bytes"
	"encoding/binary"
	"fmt"
	"math"
	"slices"
	"strconv"
	"strings"
	"testing"

	"skolem/aig"
	"skolem/api"
	"skolem/gate"
	"skolem/graph"
)

// isAt tells whether err is this one around this place, and nothing more (none: nil).
func isAt(err error, pos int, this error) bool {
	if this == nil {
		return err == nil
	}
	a, ok := err.(*api.At)
	return ok && a.Pos == pos && a.Err == this
}

// same tells whether a and b are the same circuit.
func same(a, b api.Circuit) bool {
	return a.Inputs == b.Inputs && slices.Equal(a.Ands, b.Ands) && slices.Equal(a.Outs, b.Outs)
}

// checkRead tells where Read of text does not answer this.
func checkRead(t *testing.T, text string, want api.Circuit, pos int, wantErr error) {
	t.Helper()
	c, err := aig.Read([]byte(text))
	if !same(c, want) || !isAt(err, pos, wantErr) {
		t.Errorf("Read(%.100q) = %.200v, %v", text, fmt.Sprint(c), err)
	}
}

// some has a gate that no output needs, one gate twice, and outputs of each kind.
func some() api.Circuit {
	return api.Circuit{Inputs: 2, Ands: [][2]int{{4, 2}, {6, 5}, {8, 8}, {4, 2}, {1, 0}}, Outs: []int{13, 0, 1, 3, 13, 8}}
}

const someText = "aig 7 2 0 6 5\n13\n0\n1\n3\n13\n8\n\x02\x02\x02\x01\x02\x00\x08\x02\x0d\x01"

func TestRead(t *testing.T) {
	for _, x := range []struct {
		text string
		want api.Circuit
	}{
		{"aig 0 0 0 0 0\n", api.Circuit{}},
		{"aig 3 3 0 0 0\n", api.Circuit{Inputs: 3}},
		{"aig 8000 8000 0 0 0\n", api.Circuit{Inputs: 8000}},
		{"aig 0 0 0 3 0\n0\n1\n0\n", api.Circuit{Outs: []int{0, 1, 0}}},
		{"aig 1 1 0 1 0\n3\n", api.Circuit{Inputs: 1, Outs: []int{3}}},
		{"aig 1 0 0 1 1\n3\n\x01\x00", api.Circuit{Outs: []int{3}, Ands: [][2]int{{1, 1}}}},
		{"aig 2 0 0 0 2\n\x02\x00\x01\x01", api.Circuit{Ands: [][2]int{{0, 0}, {3, 2}}}},
		{"aig 3 2 0 0 1\n\x01\x05", api.Circuit{Inputs: 2, Ands: [][2]int{{5, 0}}}},
		{"aig 3 2 0 0 1\n\x06\x00", api.Circuit{Inputs: 2, Ands: [][2]int{{0, 0}}}},
		{someText, some()},
		// bytes of a gate that would be blanks, lines' ends and words elsewhere
		{"aig 25 24 0 0 1\n\n\t", api.Circuit{Inputs: 24, Ands: [][2]int{{40, 31}}}},
		{"aig 60 59 0 0 1\nc\n", api.Circuit{Inputs: 59, Ands: [][2]int{{21, 11}}}},
		{"aig 60 59 0 0 1\n \r", api.Circuit{Inputs: 59, Ands: [][2]int{{88, 75}}}},
		// blanks, and noughts ahead of a number
		{" \t\raig\t\t1 \r1 0\t2  0 \r\n  2\t\n\r3\n", api.Circuit{Inputs: 1, Outs: []int{2, 3}}},
		{"aig 002 000000001 00 01 1\n000000005\n\x01\x01", api.Circuit{Inputs: 1, Outs: []int{5}, Ands: [][2]int{{3, 2}}}},
		// more bytes than one
		{"aig 101 100 0 0 1\n\x7f\x4b", api.Circuit{Inputs: 100, Ands: [][2]int{{75, 0}}}},
		{"aig 101 100 0 0 1\n\x80\x01\x4a", api.Circuit{Inputs: 100, Ands: [][2]int{{74, 0}}}},
		{"aig 101 100 0 0 1\n\xca\x01\x00", api.Circuit{Inputs: 100, Ands: [][2]int{{0, 0}}}},
		{"aig 101 100 0 0 1\n\x01\xc9\x01", api.Circuit{Inputs: 100, Ands: [][2]int{{201, 0}}}},
		{"aig 8000 7999 0 0 1\n\x80\x7d\x00", api.Circuit{Inputs: 7999, Ands: [][2]int{{0, 0}}}},
		// more bytes than are needed, up to five
		{"aig 1 0 0 0 1\n\x81\x00\x81\x80\x80\x80\x00", api.Circuit{Ands: [][2]int{{1, 0}}}},
		{"aig 1 0 0 0 1\n\x82\x80\x80\x00\x80\x80\x00", api.Circuit{Ands: [][2]int{{0, 0}}}},
		// what is behind counts for nothing
		{"aig 0 0 0 0 0\nc\n", api.Circuit{}},
		{"aig 0 0 0 0 0\nc\n\n\x00\xffx -1\naig 9 9 9 9 9\n", api.Circuit{}},
		{"aig 1 1 0 1 0\n3\nc\n\x02\x02", api.Circuit{Inputs: 1, Outs: []int{3}}},
		{"aig 60 59 0 0 1\nc\nc\nc", api.Circuit{Inputs: 59, Ands: [][2]int{{21, 11}}}},
		{someText + "c\n\x02", some()},
	} {
		checkRead(t, x.text, x.want, 0, nil)
	}
}

func TestReadHeadAmiss(t *testing.T) {
	for _, text := range []string{
		// no line
		"", "a", "aig", "aig 0 0 0 0 0", "aig 0 0 0 0 0c", "aig 0 8001 0 0 0",
		// words that lack, ahead of the limits too
		"\n", " \t\r\n", "aig\n", "aig 0\n", "aig 0 0 0 0\n", "aig 0 0 0 0 \n0\n", "aig 8001 8001 0 0\n", "aig 8001 8001 0 0\n0\n",
		// more words than there are, ahead of the limits too
		"aig 0 0 0 0 0 0\n", "aig 0 0 0 0 0 c\n", "aig 1 1 0 0 0 2\n", "aig 8001 8001 0 0 0 0\n", "aig 0 0 0 8001 0 c\n",
		// other words
		"aag 0 0 0 0 0\n", "AIG 0 0 0 0 0\n", " aigg 0 0 0 0 0\n", "aig0 0 0 0 0\n", "0 0 0 0 0\n", "aig 0 aig 0 0 0\n",
		"0 aig 0 0 0 0\n", "\naig 0 0 0 0 0\n", "c\naig 0 0 0 0 0\n", "c aig 0 0 0 0\n", "aag 8001 8001 0 0 0\n",
		"aig x 0 0 0 0\n", "aig 0 x 0 0 0\n", "aig 0 0 x 0 0\n", "aig 0 0 0 x 0\n", "aig 0 0 0 0 x\n",
		"aig 0 0 0 0 +0\n", "aig 0 0 0 0 0c\n", "aig 0 0.0 0 0 0\n", "aig 0 0 0\x00 0 0\n", "aig 0 0 0 0 0\v\n",
		// with a minus
		"aig -0 0 0 0 0\n", "aig 0 -0 0 0 0\n", "aig 0 0 -0 0 0\n", "aig 0 0 0 -0 0\n", "aig 0 0 0 0 -0\n",
		"aig -1 -1 0 0 0\n", "aig 0 -1 0 0 1\n\x02\x00", "aig -1 0 0 0 -1\n", "aig 0 0 0 -1 0\n", "aig 0 -8001 0 0 0\n",
		// longer than a number is
		"aig 0000000000 0 0 0 0\n", "aig 0 1000000000 0 0 0\n", "aig 0 0 0 99999999999999999999 0\n",
		// the words ahead of the limits
		"aig 8001 8001 0 0 x\n", "aig x 8001 0 0 0\n", "aig 0 8001 x 0 0\n", "aig 0 0 -0 8001 0\n", "aig 8001 0 0 -1 8001\n",
		// M and L
		"aig 1 0 0 0 0\n", "aig 0 1 0 0 0\n", "aig 0 0 0 0 1\n\x02\x00", "aig 2 2 0 0 1\n\x02\x00", "aig 4 2 0 0 1\n\x02\x00",
		"aig 999999999 8000 0 0 0\n", "aig 0 0 1 0 0\n", "aig 1 0 1 0 0\n2\n", "aig 1 1 999999999 0 0\n", "aig 2 1 1 0 0\n",
		"aig 0 8000 1 8000 0\n", "aig 8000 8000 1 8000 0\n", "aig 8000 1 0 8000 7998\n",
		// ahead of what stands behind the line
		"aig 1 0 0 1 0\n", "aig 0 0 1 1 0\nx\n", "aig 1 0 0 0 0\nx", "aig x 0 0 0 0\nx",
	} {
		checkRead(t, text, api.Circuit{}, 0, api.ErrText)
	}
}

func TestReadLimits(t *testing.T) {
	for _, text := range []string{
		"aig 8001 8001 0 0 0\n", "aig 8001 0 0 0 8001\n", "aig 8001 8000 0 0 1\n", "aig 8001 1 0 0 8000\n", "aig 16000 8000 0 0 8000\n",
		"aig 0 0 0 8001 0\n", "aig 0 0 0 999999999 0\n", "aig 0 999999999 0 0 0\n", "aig 0 0 0 0 999999999\n", "aig 0 999999999 0 0 999999999\n",
		// ahead of M and L
		"aig 0 8001 1 8001 8001\n", "aig 0 8001 0 0 0\n", "aig 0 0 0 0 8001\n", "aig 0 8000 0 0 1\n", "aig 1 0 0 8001 0\n",
		"aig 8001 8001 1 0 0\n", "aig 8001 0 1 0 8001\n", "aig 0 0 1 8001 0\n",
		// ahead of what stands behind the line
		"aig 8001 8001 0 1 0\nx\n", "aig 8001 8001 0 0 0\nx", "  aig 0 08001 0 0 0\n0\n",
	} {
		checkRead(t, text, api.Circuit{}, 0, api.ErrLimit)
	}
}

// amissBehind is texts of which what is amiss is at a place behind a head.
type amissBehind struct {
	head, text string
	pos        int
}

func checkBehind(t *testing.T, all ...amissBehind) {
	t.Helper()
	for _, x := range all {
		checkRead(t, x.head+x.text, api.Circuit{}, len(x.head)+x.pos, api.ErrText)
	}
}

func TestReadOutsAmiss(t *testing.T) {
	const out, both = "aig 2 2 0 2 0\n", "aig 2 1 0 2 1\n"
	checkBehind(t, []amissBehind{
		// no line
		{out, "", 0},
		{out, "1", 0},
		{out, "x", 0},
		{out, "1\n", 2},
		{out, "1\n1", 2},
		{out, " 1 \n 1 ", 4},
		// words that lack
		{out, "\n1\n1\n", 0},
		{out, "1\n \t\r\n1\n", 2},
		// more than one
		{out, "1 1\n", 0},
		{out, "1 c\n1\n", 0},
		{out, "1\n 1 1\n", 2},
		{out, "1\n1 c\n", 2},
		// no number
		{out, "x\n1\n", 0},
		{out, "1\n  c\n", 2},
		{out, "c\n1\n1\n", 0},
		{out, "1\n+1\n", 2},
		{out, "1\n1\x00\n", 2},
		{out, "-0\n1\n", 0},
		{out, "1\n-1\n", 2},
		{out, "0000000001\n1\n", 0},
		{out, "1\n1000000000\n", 2},
		// no literal
		{out, "6\n1\n", 0},
		{out, "1\n  6\n", 2},
		{out, "1\n999999999\n", 2},
		{both, "6\n0\n\x02\x00", 0},
		{both, "5\n6\n\x02\x00", 2},
		// the first one that is amiss
		{out, "6\n", 0},
		{out, "x\nx\n", 0},
		{both, "1\nx\n\x00", 2},
	}...)
	checkRead(t, out+"5\n5\n", api.Circuit{Inputs: 2, Outs: []int{5, 5}}, 0, nil)
}

func TestReadGatesAmiss(t *testing.T) {
	const one, in, two, wide = "aig 1 0 0 0 1\n", "aig 3 2 0 1 1\n7\n", "aig 4 2 0 0 2\n\x02\x02", "aig 101 100 0 0 1\n"
	checkBehind(t, []amissBehind{
		// not ended
		{one, "", 0},
		{one, "\x81", 0},
		{one, "\x81\x80\x80\x80", 0},
		{one, "\x01", 1},
		{one, "\x01\x80", 1},
		{one, "\x81\x00", 2},
		{one, "\x81\x00\x80\x80", 2},
		{two, "", 0},
		{two, "\x82\x00", 2},
		// too long
		{one, "\x81\x80\x80\x80\x80", 0},
		{one, "\x81\x80\x80\x80\x80\x00\x00", 0},
		{one, "\x01\x80\x80\x80\x80\x80\x00", 1},
		{one, "\xff\xff\xff\xff\xff\xff\xff\xff\xff\x01\x00", 0},
		{two, "\x02\x80\x80\x80\x80\x80", 1},
		// the first one: 1 to 2 (I + i)
		{one, "\x00\x00", 0},
		{one, "\x03\x00", 0},
		{one, "\x80\x00\x00", 0},
		{one, "\xff\xff\xff\xff\x7f\x00", 0},
		{one, "\x81\x80\x80\x80\x10\x00", 0}, // 1, and more than 32 bits
		{one, "\x81\x80\x80\x80\x40\x00", 0},
		{in, "\x00\x00", 0},
		{in, "\x07\x00", 0},
		{two, "\x00\x00", 0},
		{two, "\x09\x00", 0},
		{wide, "\xcb\x01\x00", 0},
		{wide, "\xcb\x81\x00\x00", 0},
		{wide, "\xff\x7f\x00", 0},
		// the second one: 0 to the first literal
		{one, "\x01\x02", 1},
		{one, "\x02\x01", 1},
		{one, "\x01\x80\x80\x80\x80\x10", 1},
		{one, "\x01\x80\x80\x80\x80\x40", 1},
		{in, "\x06\x01", 1},
		{in, "\x01\x06", 1},
		{in, "\x03\x84\x00", 1},
		{two, "\x01\x08", 1},
		{two, "\x83\x00\x06", 2},
		{wide, "\x01\xca\x01", 1},
		{wide, "\xca\x01\x01", 2},
		// the first one that is amiss
		{one, "\x00", 0},
		{one, "\x03\xff", 0},
		{two, "\x09\x09", 0},
	}...)
}

func TestReadBehindAmiss(t *testing.T) {
	const none, out, gates = "aig 0 0 0 0 0\n", "aig 1 1 0 1 0\n3\n", "aig 1 0 0 0 1\n\x01\x00"
	for _, head := range []string{none, out, gates, someText} {
		checkRead(t, head+"c\n", mustRead(t, head), 0, nil)
		for _, behind := range []string{"c", "cc\n", "c \n", "c\r\n", "c\x00\n", "c c\n", " c\n", "\nc\n", "\n", " ", "\x00", "C\n", "x\nc\n", "i0 x\nc\n", "0\n", "\xff"} {
			checkBehind(t, amissBehind{head, behind, 0})
		}
	}
}

func mustRead(t *testing.T, text string) api.Circuit {
	t.Helper()
	c, err := aig.Read([]byte(text))
	if err != nil {
		t.Fatalf("Read(%q) tells %v", text, err)
	}
	return c
}

func TestReadMaxText(t *testing.T) {
	const text = "aig 1 1 0 0 0\nc\n"
	fill := func(n int) string { return text + strings.Repeat("x", n-len(text)) }
	one := api.Circuit{Inputs: 1}
	checkRead(t, fill(api.MaxText), one, 0, nil)
	checkRead(t, fill(api.MaxText+1), api.Circuit{}, api.MaxText, api.ErrLimit)
	checkRead(t, fill(2*api.MaxText), api.Circuit{}, api.MaxText, api.ErrLimit)
	checkRead(t, "x"+fill(api.MaxText), api.Circuit{}, api.MaxText, api.ErrLimit) // ahead of what is amiss in it
	checkRead(t, strings.Repeat("x", api.MaxText+1), api.Circuit{}, api.MaxText, api.ErrLimit)
	checkRead(t, strings.Repeat("x", api.MaxText), api.Circuit{}, 0, api.ErrText)
	blanks := strings.Repeat(" ", api.MaxText-len("aig 1 1 0 0 0\n"))
	checkRead(t, "aig 1 1 0 0 0"+blanks+"\n", one, 0, nil)
	checkRead(t, "aig 1 1 0 0 0 "+blanks, api.Circuit{}, 0, api.ErrText)
	checkRead(t, "aig 1 1 0 0 0"+strings.Repeat(" 0", len(blanks)/2)+"\n", api.Circuit{}, 0, api.ErrText)
}

// value is the number that s is, if it is one to nine digits; else -1.
func value(s string) int {
	n, err := strconv.Atoi(s)
	if err != nil || len(s) > 9 || strings.Trim(s, "0123456789") != "" {
		return -1
	}
	return n
}

// plainHead is the numbers of a first line, if they may be so.
func plainHead(line string) ([]int, error) {
	words := strings.FieldsFunc(line, func(r rune) bool { return strings.ContainsRune(" \t\r", r) })
	if len(words) != 6 || words[0] != "aig" {
		return nil, api.ErrText
	}
	var n []int
	for _, w := range words[1:] {
		n = append(n, value(w))
	}
	m, i, l, o, a := n[0], n[1], n[2], n[3], n[4]
	switch {
	case slices.Min(n) < 0:
		return nil, api.ErrText
	case i > 8000, a > 8000, i+a > 8000, o > 8000:
		return nil, api.ErrLimit
	case m != i+a, l != 0:
		return nil, api.ErrText
	}
	return n, nil
}

// plainly is what Read tells of text, by cutting piece after piece from it.
func plainly(text string) (api.Circuit, int, error) {
	rest := text
	place := func() int { return len(text) - len(rest) }
	fail := func(err error) (api.Circuit, int, error) { return api.Circuit{}, place(), err }
	line, behind, ok := strings.Cut(rest, "\n")
	n, err := plainHead(line)
	if !ok {
		err = api.ErrText
	}
	if err != nil {
		return fail(err)
	}
	rest = behind
	c := api.Circuit{Inputs: n[1]}
	for range n[3] {
		line, behind, ok := strings.Cut(rest, "\n")
		l := value(strings.Trim(line, " \t\r"))
		if !ok || l < 0 || l > 2*n[0]+1 {
			return fail(api.ErrText)
		}
		c.Outs = append(c.Outs, l)
		rest = behind
	}
	for i := range n[4] {
		own := uint64(2 * (n[1] + i + 1))
		less, long := binary.Uvarint([]byte(rest))
		if long < 1 || long > 5 || less < 1 || less > own {
			return fail(api.ErrText)
		}
		rest = rest[long:]
		a := own - less
		less, long = binary.Uvarint([]byte(rest))
		if long < 1 || long > 5 || less > a {
			return fail(api.ErrText)
		}
		rest = rest[long:]
		c.Ands = append(c.Ands, [2]int{int(a), int(a - less)})
	}
	if rest != "" && !strings.HasPrefix(rest, "c\n") {
		return fail(api.ErrText)
	}
	return c, -1, nil
}

// every calls f with each text that begins with head and goes on with up to
// most of these parts.
func every(head string, parts []string, most int, f func(text string)) {
	f(head)
	if most == 0 {
		return
	}
	for _, p := range parts {
		every(head+p, parts, most-1, f)
	}
}

func TestReadOfAll(t *testing.T) {
	right := 0
	check := func(text string) {
		want, pos, wantErr := plainly(text)
		if wantErr == nil {
			right++
		}
		c, err := aig.Read([]byte(text))
		if !same(c, want) || !isAt(err, pos, wantErr) {
			t.Fatalf("Read(%q) = %v, %v, want %v, %d, %v", text, c, err, want, pos, wantErr)
		}
	}
	every("", []string{"aig ", "0 ", "1 ", "-0 ", "\n", "c"}, 6, check)
	every("aig ", []string{"0 ", "1 ", "2 ", "8000 ", "8001 ", "\n"}, 6, check)
	for _, head := range []string{"aig 1 1 0 1 0\n", "aig 0 0 0 2 0\n", "aig 2 1 0 1 1\n", "aig 60 59 0 1 1\n"} {
		every(head, []string{"0", "1", "4", " ", "\n", "c", "-", "\x02"}, 5, check)
	}
	for _, head := range []string{"aig 1 0 0 0 1\n", "aig 2 1 0 0 1\n", "aig 2 0 0 0 2\n", "aig 60 59 0 0 1\n", "aig 65 63 0 0 2\n", "aig 8000 7999 0 0 1\n"} {
		every(head, []string{"\x00", "\x01", "\x02", "\x04", "\x80", "\x81", "\x7f", "c", "\n"}, 5, check)
		every(head, []string{"\x01", "\x80", "\x81"}, 9, check)
	}
	if right < 500 {
		t.Errorf("only %d texts are right", right)
	}
}

func TestBytes(t *testing.T) {
	for _, x := range []struct {
		c    api.Circuit
		want string
	}{
		{api.Circuit{}, "aig 0 0 0 0 0\n"},
		{api.Circuit{Ands: [][2]int{}, Outs: []int{}}, "aig 0 0 0 0 0\n"},
		{api.Circuit{Inputs: 3}, "aig 3 3 0 0 0\n"},
		{api.Circuit{Outs: []int{1, 0}}, "aig 0 0 0 2 0\n1\n0\n"},
		{api.Circuit{Ands: [][2]int{{1, 0}, {3, 3}}}, "aig 2 0 0 0 2\n\x01\x01\x01\x00"},
		{api.Circuit{Inputs: 2, Ands: [][2]int{{5, 0}, {0, 0}}}, "aig 4 2 0 0 2\n\x01\x05\x08\x00"},
		{some(), someText},
		// no more bytes than are needed
		{api.Circuit{Inputs: 100, Ands: [][2]int{{75, 0}}}, "aig 101 100 0 0 1\n\x7f\x4b"},
		{api.Circuit{Inputs: 100, Ands: [][2]int{{74, 0}}}, "aig 101 100 0 0 1\n\x80\x01\x4a"},
		{api.Circuit{Inputs: 100, Ands: [][2]int{{201, 74}}}, "aig 101 100 0 0 1\n\x01\x7f"},
		{api.Circuit{Inputs: 100, Ands: [][2]int{{201, 73}}}, "aig 101 100 0 0 1\n\x01\x80\x01"},
		{api.Circuit{Inputs: 100, Ands: [][2]int{{0, 0}}}, "aig 101 100 0 0 1\n\xca\x01\x00"},
		{api.Circuit{Inputs: 7999, Ands: [][2]int{{0, 0}}}, "aig 8000 7999 0 0 1\n\x80\x7d\x00"},
		{api.Circuit{Inputs: 7999, Ands: [][2]int{{15999, 0}}}, "aig 8000 7999 0 0 1\n\x01\xff\x7c"},
		// of what is not right it tells what is there; a count below 0 is none
		{api.Circuit{Inputs: 1, Outs: []int{-1, 99}}, "aig 1 1 0 2 0\n-1\n99\n"},
		{api.Circuit{Outs: []int{math.MinInt, math.MaxInt}}, "aig 0 0 0 2 0\n-9223372036854775808\n9223372036854775807\n"},
		{api.Circuit{Inputs: -1, Ands: [][2]int{{0, 0}}}, "aig 1 0 0 0 1\n\x02\x00"},
		{api.Circuit{Inputs: math.MinInt}, "aig 0 0 0 0 0\n"},
		{api.Circuit{Inputs: 8191, Ands: [][2]int{{0, 0}}}, "aig 8192 8191 0 0 1\n\x80\x80\x01\x00"},
		{api.Circuit{Inputs: math.MaxInt}, "aig 9223372036854775807 9223372036854775807 0 0 0\n"},
	} {
		if got := aig.Bytes(x.c); string(got) != x.want {
			t.Errorf("Bytes(%v) = %.100q, want %q", x.c, got, x.want)
		}
	}
}

// TestBytesOfWrong: Bytes of what is not right ends, and is nothing that Read
// takes.
func TestBytesOfWrong(t *testing.T) {
	literals := []int{math.MinInt, math.MinInt + 1, -3, -2, -1, 0, 1, 2, 3, 4, 5, math.MaxInt32, math.MaxInt - 1, math.MaxInt}
	for _, inputs := range []int{0, 1, api.MaxNodes, api.MaxNodes + 1, math.MaxInt32, math.MaxInt/2 + 1, math.MaxInt} {
		for _, a := range literals {
			for _, b := range literals {
				c := api.Circuit{Inputs: inputs, Ands: [][2]int{{a, b}}}
				got, err := aig.Read(aig.Bytes(c))
				if graph.Check(c) == nil && (err != nil || !same(got, c)) || graph.Check(c) != nil && err == nil {
					t.Errorf("Read of Bytes of %v = %v, %v", c, got, err)
				}
			}
		}
		for _, l := range literals {
			c := api.Circuit{Inputs: inputs, Outs: []int{l}}
			if _, err := aig.Read(aig.Bytes(c)); (err == nil) != (graph.Check(c) == nil) {
				t.Errorf("Read of Bytes of %v tells %v", c, err)
			}
		}
	}
}

// back tells where Read of Bytes of c is not c.
func back(t *testing.T, c api.Circuit) {
	t.Helper()
	if err := graph.Check(c); err != nil {
		t.Fatal(err)
	}
	checkRead(t, string(aig.Bytes(c)), c, 0, nil)
}

// TestBackOfAll: each circuit of up to two inputs, two gates and two outputs.
func TestBackOfAll(t *testing.T) {
	outs := func(c api.Circuit) {
		back(t, c)
		last := 2*(c.Inputs+len(c.Ands)) + 1
		for a := range last + 1 {
			c.Outs = []int{a}
			back(t, c)
			for b := range last + 1 {
				c.Outs = []int{a, b}
				back(t, c)
			}
		}
	}
	var more func(c api.Circuit)
	more = func(c api.Circuit) {
		outs(c)
		if len(c.Ands) == 2 {
			return
		}
		for a := range 2 * (c.Inputs + len(c.Ands) + 1) {
			for b := range a + 1 {
				more(api.Circuit{Inputs: c.Inputs, Ands: append(slices.Clone(c.Ands), [2]int{a, b})})
			}
		}
	}
	for n := range 3 {
		more(api.Circuit{Inputs: n})
	}
}

// TestBackOfEachGate: gates behind many inputs, of numbers of each length.
func TestBackOfEachGate(t *testing.T) {
	for _, inputs := range []int{62, 63, 64, 65, api.MaxNodes - 1} {
		last := 2*inputs + 1
		for a := 0; a <= last; a += 1 + last/200 {
			for b := 0; b <= a; b += 1 + last/200 {
				back(t, api.Circuit{Inputs: inputs, Ands: [][2]int{{a, b}}})
			}
			back(t, api.Circuit{Inputs: inputs, Ands: [][2]int{{a, a}}})
			back(t, api.Circuit{Inputs: inputs, Ands: [][2]int{{last, a}}})
		}
	}
}

func TestBackOfMany(t *testing.T) {
	full := func(inputs, outs int) api.Circuit {
		c := api.Circuit{Inputs: inputs}
		for n := inputs + 1; n <= api.MaxNodes; n++ {
			c.Ands = append(c.Ands, [2]int{2*n - 1 - n%3*n/2, n % 5 * n / 9})
		}
		for i := range outs {
			c.Outs = append(c.Outs, (2*api.MaxNodes+1)-i)
		}
		return c
	}
	for _, inputs := range []int{0, 1, 4000, api.MaxNodes - 1, api.MaxNodes} {
		back(t, full(inputs, 0))
		back(t, full(inputs, api.MaxNodes))
	}
	// the greatest output that Read takes, and the one above it
	checkRead(t, "aig 8000 8000 0 1 0\n16001\n", api.Circuit{Inputs: 8000, Outs: []int{16001}}, 0, nil)
	checkRead(t, "aig 8000 8000 0 1 0\n16002\n", api.Circuit{}, len("aig 8000 8000 0 1 0\n"), api.ErrText)
	// more than Read takes
	c := full(0, 0)
	c.Outs = make([]int, api.MaxNodes+1)
	checkRead(t, string(aig.Bytes(c)), api.Circuit{}, 0, api.ErrLimit)
	checkRead(t, string(aig.Bytes(api.Circuit{Inputs: api.MaxNodes + 1})), api.Circuit{}, 0, api.ErrLimit)
	checkRead(t, string(aig.Bytes(api.Circuit{Inputs: 1, Ands: full(0, 0).Ands})), api.Circuit{}, 0, api.ErrLimit)
	// what a graph makes is one
	g := graph.New(20)
	l := 0
	for i := range 20 {
		l = gate.Xor(g, l, g.Input(i))
	}
	back(t, g.Circuit(l, graph.Not(l)))
}

// TestMemory: what is handed in is neither changed nor kept, what is behind it
// in its memory counts for nothing, and no two lists that are handed out share
// memory, spare room too.
func TestMemory(t *testing.T) {
	const behind = "c\nx"
	whole := []byte(someText + behind)
	if _, err := aig.Read(whole[:len(someText)-1]); !isAt(err, len(someText)-1, api.ErrText) {
		t.Error("read beyond the length", err)
	}
	if _, err := aig.Read(whole[:len(someText)+1]); !isAt(err, len(someText), api.ErrText) {
		t.Error("read beyond the length", err)
	}
	b := whole[:len(someText)]
	c, err := aig.Read(b)
	d, _ := aig.Read(b)
	if err != nil || string(whole) != someText+behind {
		t.Fatal(err, string(whole))
	}
	fill(whole, '#')
	fill(c.Outs, 99)
	if !slices.Equal(c.Ands, some().Ands) || !same(d, some()) {
		t.Error("outputs share memory", c, d)
	}
	fill(c.Ands, [2]int{99, 99})
	if !same(d, some()) {
		t.Error("gates share memory", d)
	}
	e := api.Circuit{Inputs: 2, Ands: append(some().Ands, [2]int{9, 9})[:5], Outs: append(some().Outs, 9)[:6]}
	one, other := aig.Bytes(e), aig.Bytes(e)
	fill(one, '#')
	if !same(e, some()) || e.Ands[:6][5] != [2]int{9, 9} || e.Outs[:7][6] != 9 || !bytes.Equal(other, []byte(someText)) {
		t.Error("texts share memory", e, string(other))
	}
}

// fill writes x all over list, its spare room too.
func fill[T any](list []T, x T) {
	list = list[:cap(list)]
	for i := range list {
		list[i] = x
	}
}
