package word_test

import (
	"bytes"
	"math"
	"slices"
	"strconv"
	"strings"
	"testing"

	"skolem/word"
)

// blanks are those that part words, and no lines.
const blanks = " \t\r"

func TestSplit(t *testing.T) {
	for _, x := range []struct {
		text  string
		words []word.Word
	}{
		{"", nil},
		{" \t\r\n\n \r\n", nil},
		{"a", []word.Word{{"a", 0, true}}},
		{"p cnf 3 2\n", []word.Word{{"p", 0, true}, {"cnf", 2, false}, {"3", 6, false}, {"2", 8, false}}},
		{"ab\tcd\ref gh", []word.Word{{"ab", 0, true}, {"cd", 3, false}, {"ef", 6, false}, {"gh", 9, false}}},
		{"  ab\n\n xd  e \r\nf\n", []word.Word{{"ab", 2, true}, {"xd", 7, true}, {"e", 11, false}, {"f", 15, true}}},
		{"a c\nC a", []word.Word{{"a", 0, true}, {"c", 2, false}, {"C", 4, true}, {"a", 6, false}}},
		{"a\rc b", []word.Word{{"a", 0, true}, {"c", 2, false}, {"b", 4, false}}},
		{"ac bc", []word.Word{{"ac", 0, true}, {"bc", 3, false}}},
		{"a\x00\v\f\x85\xa0\xffb", []word.Word{{"a\x00\v\f\x85\xa0\xffb", 0, true}}},
		{"\u00a0 \u2028", []word.Word{{"\u00a0", 0, true}, {"\u2028", 3, false}}},
	} {
		for _, comments := range []bool{false, true} { // none of these lines is one
			if got := word.Split([]byte(x.text), comments); !slices.Equal(got, x.words) {
				t.Errorf("Split(%q, %t) = %v", x.text, comments, got)
			}
		}
	}
}

func TestSplitComments(t *testing.T) {
	for _, x := range []struct {
		text         string
		plain, light []word.Word // without comments, with them
	}{
		{"c", []word.Word{{"c", 0, true}}, nil},
		{"c\n", []word.Word{{"c", 0, true}}, nil},
		{"c x\nb c\n", []word.Word{{"c", 0, true}, {"x", 2, false}, {"b", 4, true}, {"c", 6, false}}, []word.Word{{"b", 4, true}, {"c", 6, false}}},
		{"cnf\n \tcat d\r\ne", []word.Word{{"cnf", 0, true}, {"cat", 6, true}, {"d", 10, false}, {"e", 13, true}}, []word.Word{{"e", 13, true}}},
		{"a\nc a\rb\n1", []word.Word{{"a", 0, true}, {"c", 2, true}, {"a", 4, false}, {"b", 6, false}, {"1", 8, true}}, []word.Word{{"a", 0, true}, {"1", 8, true}}},
		{"c\nc\n\nb", []word.Word{{"c", 0, true}, {"c", 2, true}, {"b", 5, true}}, []word.Word{{"b", 5, true}}},
	} {
		if got := word.Split([]byte(x.text), false); !slices.Equal(got, x.plain) {
			t.Errorf("Split(%q, false) = %v", x.text, got)
		}
		if got := word.Split([]byte(x.text), true); !slices.Equal(got, x.light) {
			t.Errorf("Split(%q, true) = %v", x.text, got)
		}
	}
}

// TestSplitKinds tells of each byte whether it is part of a word, a blank, or a line's end.
func TestSplitKinds(t *testing.T) {
	for c := range 256 {
		b := []byte{'a', byte(c), 'b'}
		want := []word.Word{{string(b), 0, true}}
		if strings.IndexByte(blanks+"\n", byte(c)) >= 0 {
			want = []word.Word{{"a", 0, true}, {"b", 2, c == '\n'}}
		}
		if got := word.Split(b, false); !slices.Equal(got, want) {
			t.Errorf("Split(%q, false) = %v", b, got)
		}
		lone := []word.Word{{string(b[1:2]), 0, true}}
		if strings.IndexByte(blanks+"\n", byte(c)) >= 0 {
			lone = nil
		}
		if got := word.Split(b[1:2], false); !slices.Equal(got, lone) {
			t.Errorf("Split(%q, false) = %v", b[1:2], got)
		}
		if c == 'c' {
			lone = nil
		}
		if got := word.Split(b[1:2], true); !slices.Equal(got, lone) {
			t.Errorf("Split(%q, true) = %v", b[1:2], got)
		}
	}
}

// plainly is Split, line by line.
func plainly(text string, comments bool) []word.Word {
	var words []word.Word
	at := 0
	for _, line := range strings.Split(text, "\n") {
		isGap := func(r rune) bool { return strings.ContainsRune(blanks, r) }
		fields := strings.FieldsFunc(line, isGap)
		from := 0
		for i, f := range fields {
			if comments && strings.HasPrefix(fields[0], "c") {
				break
			}
			from += strings.Index(line[from:], f)
			words = append(words, word.Word{Text: f, Pos: at + from, First: i == 0})
			from += len(f)
		}
		at += len(line) + 1
	}
	return words
}

// every calls f with each text of these letters that is no longer than most.
func every(letters string, most int, f func(text string)) {
	var grow func(text string)
	grow = func(text string) {
		f(text)
		if len(text) == most {
			return
		}
		for i := range len(letters) {
			grow(text + letters[i:i+1])
		}
	}
	grow("")
}

func TestSplitOfAll(t *testing.T) {
	every("ac \n\r", 6, func(text string) {
		for _, comments := range []bool{false, true} {
			if got := word.Split([]byte(text), comments); !slices.Equal(got, plainly(text, comments)) {
				t.Fatalf("Split(%q, %t) = %v", text, comments, got)
			}
		}
	})
}

func TestNumber(t *testing.T) {
	for _, x := range []struct {
		s    string
		want int
	}{
		{"0", 0}, {"-0", 0}, {"-000000000", 0}, {"7", 7}, {"-7", -7}, {"9", 9}, {"10", 10}, {"007", 7}, {"-042", -42},
		{"123456789", 123456789}, {"-123456789", -123456789}, {"999999999", 999999999}, {"-999999999", -999999999},
		{"000000001", 1}, {"-000000001", -1},
	} {
		if got, ok := word.Number(x.s); got != x.want || !ok {
			t.Errorf("Number(%q) = %d, %t", x.s, got, ok)
		}
	}
	for _, s := range []string{
		"", "-", "--1", "+1", "1-", "-1-", "- 1", " 1", "1 ", "1\n", "1.0", "1e3", "0x1", "1_0", "a", "-a", "1a", "a1",
		"1000000000", "-1000000000", "0000000000", "-0000000001", "0000000001", "9223372036854775808", "18446744073709551617",
		"\u0663", "\uff11", "\u22121", "1\x00", strings.Repeat("9", 1000),
	} {
		if got, ok := word.Number(s); got != 0 || ok {
			t.Errorf("Number(%q) = %d, %t", s, got, ok)
		}
	}
	for n := -1200; n <= 1200; n++ {
		if got, ok := word.Number(strconv.Itoa(n)); got != n || !ok {
			t.Errorf("Number of %d = %d, %t", n, got, ok)
		}
	}
}

// TestDigits tells of each byte whether it is a digit, and whether it is a bit.
func TestDigits(t *testing.T) {
	for c := range 256 {
		s := string([]byte{byte(c)})
		n, ok := word.Number(s)
		if want := c >= '0' && c <= '9'; ok != want || want && n != c-'0' || !want && n != 0 {
			t.Errorf("Number(%q) = %d, %t", s, n, ok)
		}
		n, ok = word.Number("1" + s)
		if want := c >= '0' && c <= '9'; ok != want || want && n != 10+c-'0' || !want && n != 0 {
			t.Errorf("Number(%q) = %d, %t", "1"+s, n, ok)
		}
		bits, ok := word.Bits(s)
		if want := c == '0' || c == '1'; ok != want || want && !slices.Equal(bits, []bool{c == '1'}) || !want && len(bits) > 0 {
			t.Errorf("Bits(%q) = %v, %t", s, bits, ok)
		}
	}
}

func TestBits(t *testing.T) {
	for _, x := range []struct {
		s    string
		want []bool
	}{
		{"", nil}, {"0", []bool{false}}, {"1", []bool{true}}, {"0110", []bool{false, true, true, false}},
		{strings.Repeat("1", 70), slices.Repeat([]bool{true}, 70)},
	} {
		if got, ok := word.Bits(x.s); !slices.Equal(got, x.want) || !ok {
			t.Errorf("Bits(%q) = %v, %t", x.s, got, ok)
		}
	}
	for _, s := range []string{"2", "-", "-1", "01 ", " 01", "0 1", "012", "0\n", "1a0", "x01", "01x", "\x00", "\x01", "\uff11"} {
		if got, ok := word.Bits(s); len(got) > 0 || ok {
			t.Errorf("Bits(%q) = %v, %t", s, got, ok)
		}
	}
}

func TestLine(t *testing.T) {
	text := "ab \r\n\nc d\x00\xff\nrest"
	for _, x := range []struct {
		from int
		line string
		next int
		ok   bool
	}{
		{0, "ab \r", 5, true},
		{1, "b \r", 5, true},
		{4, "", 5, true}, // at a line's end
		{5, "", 6, true}, // an empty line
		{6, "c d\x00\xff", 12, true},
		{11, "", 12, true},
		{12, "", 0, false}, // no line's end any more
		{15, "", 0, false},
		{16, "", 0, false}, // the length
		{17, "", 0, false},
		{-1, "", 0, false},
		{math.MaxInt, "", 0, false},
		{math.MinInt, "", 0, false},
	} {
		if line, next, ok := word.Line([]byte(text), x.from); line != x.line || next != x.next || ok != x.ok {
			t.Errorf("Line(%d) = %q, %d, %t", x.from, line, next, ok)
		}
	}
	for _, b := range [][]byte{nil, {}} {
		if line, next, ok := word.Line(b, 0); line != "" || next != 0 || ok {
			t.Errorf("Line of nothing = %q, %d, %t", line, next, ok)
		}
	}
	if line, next, ok := word.Line([]byte("\n"), 0); line != "" || next != 1 || !ok {
		t.Errorf("Line of a line's end = %q, %d, %t", line, next, ok)
	}
}

func TestLineOfAll(t *testing.T) {
	every("a\n\r", 7, func(text string) {
		at := 0
		for range strings.Count(text, "\n") {
			want, _, _ := strings.Cut(text[at:], "\n")
			line, next, ok := word.Line([]byte(text), at)
			if line != want || next != at+len(want)+1 || !ok {
				t.Fatalf("Line(%q, %d) = %q, %d, %t", text, at, line, next, ok)
			}
			at = next
		}
		if line, next, ok := word.Line([]byte(text), at); line != "" || next != 0 || ok {
			t.Fatalf("Line(%q, %d) = %q, %d, %t", text, at, line, next, ok)
		}
	})
}

// TestMemory: what is handed in is neither changed nor kept, what lies behind
// its length is not read, and what is handed out is new.
func TestMemory(t *testing.T) {
	back := []byte("ab c\nde\nf g\n")
	whole := bytes.Clone(back)
	b := back[:7] // behind it: a line's end, and words
	words := word.Split(b, true)
	line, next, _ := word.Line(b, 0)
	if _, _, ok := word.Line(b, 5); ok {
		t.Error("Line reads what lies behind the length")
	}
	if !bytes.Equal(back, whole) {
		t.Errorf("it is changed: %q", back)
	}
	for i := range back {
		back[i] = '#'
	}
	if want := []word.Word{{"ab", 0, true}, {"c", 3, false}, {"de", 5, true}}; !slices.Equal(words, want) {
		t.Errorf("Split keeps what it was handed, or reads behind it: %v", words)
	}
	if line != "ab c" || next != 5 {
		t.Errorf("Line keeps what it was handed: %q, %d", line, next)
	}
	text := []byte("x y")
	one, other := word.Split(text, false), word.Split(text, false)
	fill(one, word.Word{Text: "#", Pos: -1})
	if !slices.Equal(other, []word.Word{{"x", 0, true}, {"y", 2, false}}) || !slices.Equal(word.Split(text, false), other) {
		t.Errorf("two answers of Split share memory: %v", other)
	}
	p, _ := word.Bits("010")
	q, _ := word.Bits("010")
	fill(p, true)
	if r, _ := word.Bits("010"); !slices.Equal(q, []bool{false, true, false}) || !slices.Equal(r, q) {
		t.Errorf("two answers of Bits share memory: %v, %v", q, r)
	}
}

// fill writes x all over list, its spare room too.
func fill[T any](list []T, x T) {
	list = list[:cap(list)]
	for i := range list {
		list[i] = x
	}
}

// TestLong: many words, many comments and a long line end soon.
func TestLong(t *testing.T) {
	const many = 1 << 18
	words := word.Split(bytes.Repeat([]byte("c x\na b\n"), many), true)
	if len(words) != 2*many {
		t.Fatalf("%d words", len(words))
	}
	for i, w := range words {
		if want := (word.Word{Text: []string{"a", "b"}[i%2], Pos: i/2*8 + 4 + i%2*2, First: i%2 == 0}); w != want {
			t.Fatalf("word %d: %v", i, w)
		}
	}
	long := strings.Repeat("d", many)
	if got := word.Split([]byte("c"+long+"\n"+long), true); !slices.Equal(got, []word.Word{{long, many + 2, true}}) {
		t.Errorf("%d long words", len(got))
	}
	if line, next, ok := word.Line([]byte(long+"\n"), 1); line != long[1:] || next != many+1 || !ok {
		t.Errorf("Line of a long one: %d bytes, %d, %t", len(line), next, ok)
	}
}
