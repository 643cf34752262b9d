package pace_test

import (
	"fmt"
	"math"
	"math/rand"
	"slices"
	"testing"

	"skolem/api"
	"skolem/pace"
)

// ends is numbers at the ends of what an int may be.
var ends = []int{math.MinInt, math.MinInt + 1, math.MinInt + 2, math.MinInt + 3, math.MaxInt - 3, math.MaxInt - 2, math.MaxInt - 1, math.MaxInt}

// restarts and keeps are what Restart and Keep say by a number.
var (
	restarts = map[int]bool{0: false, 1: true, 2: false, 3: true, -1: true, -2: false, -3: true, math.MinInt: false, math.MaxInt: true, math.MinInt + 1: true, math.MaxInt - 1: false}
	keeps    = map[int]bool{0: true, 1: false, 2: true, 3: false, -1: false, -2: true, -3: false, math.MinInt: true, math.MaxInt: false, math.MinInt + 1: false, math.MaxInt - 1: true}
)

// conflicts makes so many, each of which is within the budget.
func conflicts(t *testing.T, p *pace.Pace, many int) {
	t.Helper()
	for n := range many {
		if !p.Conflict() {
			t.Fatalf("conflict %d of %d is beyond the budget", n+1, many)
		}
	}
}

// TestNothing: of empty lists all are 0, as often as they are asked.
func TestNothing(t *testing.T) {
	for _, s := range []api.Script{
		{}, {Restart: []int{}, Keep: []int{}, Tie: []int{}, Sign: []int{}}, {Rounds: 7}, {Rounds: -1},
		{Restart: []int{0}, Keep: []int{0, 0}, Tie: []int{0}, Sign: []int{0, 0, 0}},
	} {
		p := pace.New(s)
		if p.Least() != 16 {
			t.Error("the example: Least", p.Least())
		}
		for range 100 {
			if !p.Conflict() || p.Left() != -1 || p.Restart() || p.Least() != 16 {
				t.Errorf("of %v: Left %d, Least %d", s, p.Left(), p.Least())
			}
			if !p.Keep(3) || p.Tie() != 0 || p.Sign(api.Unknown) || !p.Sign(api.True) || p.Sign(api.False) {
				t.Errorf("of %v something is not as of 0", s)
			}
		}
	}
}

func TestBudget(t *testing.T) {
	for _, many := range []int{1, 2, 3, 16, 17, 100} {
		p := pace.New(api.Script{Conflicts: many, Restart: []int{1}})
		for came := range many {
			if p.Left() != many-came || !p.Conflict() {
				t.Errorf("%d of %d came: Left %d", came, many, p.Left())
			}
			p.Restart() // it is of no weight for the budget
		}
		for more := range 20 {
			if p.Left() != 0 || p.Conflict() || p.Left() != 0 {
				t.Errorf("%d more than %d came: Left %d", more, many, p.Left())
			}
			p.Restart()
		}
	}
}

// TestAnyBudget: with none, or one below 0, any conflicts may come; with a great
// one many.
func TestAnyBudget(t *testing.T) {
	for _, many := range []int{0, -1, -2, math.MinInt, math.MinInt + 1} {
		p := pace.New(api.Script{Conflicts: many})
		for range 1000 {
			if !p.Conflict() || p.Left() != -1 {
				t.Fatalf("of %d: Left %d", many, p.Left())
			}
		}
	}
	for _, many := range []int{math.MaxInt, math.MaxInt - 1, 1 << 40} {
		p := pace.New(api.Script{Conflicts: many})
		for came := range 1000 {
			if p.Left() != many-came || !p.Conflict() {
				t.Fatalf("of %d: Left %d", many, p.Left())
			}
		}
	}
}

// TestLeast: where the script always says yes, a restart comes as soon as it may,
// and each time 8 conflicts later than the last time.
func TestLeast(t *testing.T) {
	p := pace.New(api.Script{Restart: []int{1}})
	for least := 16; least < 200; least += 8 {
		for came := range least {
			if p.Restart() || p.Least() != least {
				t.Fatalf("after %d of %d conflicts: a restart, or Least %d", came, least, p.Least())
			}
			conflicts(t, p, 1)
		}
		if p.Least() != least || !p.Restart() || p.Least() != least+8 {
			t.Fatalf("after %d conflicts no restart, or Least %d", least, p.Least())
		}
		if p.Restart() || p.Least() != least+8 {
			t.Fatal("two at once")
		}
	}
}

// TestCount: what came beyond Least counts for nothing once there was a restart;
// what came while the script said no counts.
func TestCount(t *testing.T) {
	p := pace.New(api.Script{Restart: []int{1, 0, 1}})
	conflicts(t, p, 100)
	if !p.Restart() || p.Restart() || p.Least() != 24 {
		t.Error("100 conflicts are one restart; Least", p.Least())
	}
	conflicts(t, p, 23)
	if p.Restart() {
		t.Error("after 23")
	}
	conflicts(t, p, 1)
	if p.Restart() || p.Least() != 24 {
		t.Error("the script says no; Least", p.Least())
	}
	if !p.Restart() || p.Least() != 32 {
		t.Error("the script says yes, and the conflicts are there still; Least", p.Least())
	}
	conflicts(t, p, 31)
	if p.Restart() {
		t.Error("after 31")
	}
}

// TestBeyondBudget: a conflict beyond the budget is one that came.
func TestBeyondBudget(t *testing.T) {
	p := pace.New(api.Script{Conflicts: 1, Restart: []int{1}})
	for range 15 {
		p.Conflict()
	}
	if p.Restart() {
		t.Error("after 15")
	}
	if p.Conflict() || !p.Restart() {
		t.Error("after 16")
	}
}

// TestRestartAsks: the script is asked only where enough conflicts came.
func TestRestartAsks(t *testing.T) {
	for first, want := range restarts {
		p := pace.New(api.Script{Restart: []int{first, 1, 0}})
		for range 15 {
			if p.Restart() {
				t.Error("too early")
			}
			conflicts(t, p, 1)
		}
		conflicts(t, p, 1)
		if got := p.Restart(); got != want {
			t.Errorf("by %d: %t", first, got)
		}
		conflicts(t, p, 24)
		if !p.Restart() {
			t.Errorf("behind %d: the next is 1", first)
		}
		conflicts(t, p, 32)
		if p.Restart() {
			t.Errorf("behind %d and 1: the next is 0", first)
		}
		if got := p.Restart(); got != want {
			t.Errorf("by %d again: %t", first, got)
		}
	}
}

func TestKeep(t *testing.T) {
	for n, want := range keeps {
		for _, score := range []int{3, 4, 5, 100, math.MaxInt, math.MaxInt - 1} {
			if got := pace.New(api.Script{Keep: []int{n}}).Keep(score); got != want {
				t.Errorf("by %d Keep(%d) = %t", n, score, got)
			}
		}
	}
}

// TestKeepAsks: up to 2 the script is not asked.
func TestKeepAsks(t *testing.T) {
	few := []int{2, 1, 0, -1, -2, -3, math.MinInt, math.MinInt + 1}
	p := pace.New(api.Script{Keep: []int{1, 1, 2}})
	for _, want := range []bool{false, false, true, false, false, true, false} {
		for _, score := range few {
			if !p.Keep(score) {
				t.Errorf("Keep(%d)", score)
			}
		}
		if got := p.Keep(3); got != want {
			t.Errorf("Keep(3) = %t, want %t", got, want)
		}
	}
}

func TestTie(t *testing.T) {
	in := []int{0, 1, 2, 7, -1, -2, -3, -8, math.MaxInt, math.MinInt, math.MinInt + 1, math.MaxInt - 1, 5}
	out := []int{0, 1, 2, 7, 0, 1, 2, 7, math.MaxInt, math.MaxInt, math.MaxInt - 1, math.MaxInt - 1, 5}
	p := pace.New(api.Script{Tie: in})
	for range 3 {
		for i, want := range out {
			if got := p.Tie(); got != want {
				t.Errorf("by %d: %d, want %d", in[i], got, want)
			}
		}
	}
}

// TestSign: by each number what it says of True, False, Unknown, and of what is
// none of these, which is as where none was.
func TestSign(t *testing.T) {
	says := [][]bool{{true, false, false, false}, {true, true, true, true}, {false, false, false, false}, {false, true, true, true}}
	for n := -9; n <= 9; n++ {
		checkSign(t, n, says[((n%4)+4)%4])
	}
	for i, n := range ends { // the least of all is a multiple of 4
		checkSign(t, n, says[i%4])
	}
}

// checkSign looks what Sign says by n.
func checkSign(t *testing.T, n int, want []bool) {
	t.Helper()
	for _, saved := range append([]int{api.True, api.False, api.Unknown, -1, -2, 3, 4, 5, 6}, ends...) {
		w := want[3]
		switch saved {
		case api.True:
			w = want[0]
		case api.False:
			w = want[1]
		case api.Unknown:
			w = want[2]
		}
		if got := pace.New(api.Script{Sign: []int{n}}).Sign(saved); got != w {
			t.Errorf("by %d Sign(%d) = %t, want %t", n, saved, got, w)
		}
	}
}

// TestSignGoesRound: each call takes one, whatever was saved.
func TestSignGoesRound(t *testing.T) {
	p := pace.New(api.Script{Sign: []int{1, 2, 2, 3, 0, 1}})
	saved := []int{api.Unknown, api.False, api.True}
	for n := range 60 {
		v := saved[n%3]
		want := []bool{true, false, false, v != api.True, v == api.True, true}[n%6]
		if got := p.Sign(v); got != want {
			t.Errorf("call %d: Sign(%d) = %t", n, v, got)
		}
	}
}

// TestMemory: the script's lists are neither changed nor kept, nor what is behind
// them read or written.
func TestMemory(t *testing.T) {
	mine := []int{1, 2, 3, 77, 78}
	s := api.Script{Restart: mine[:1], Keep: mine[1:2], Tie: mine[:3], Sign: mine[:2]}
	p, other := pace.New(s), pace.New(s)
	conflicts(t, p, 16)
	for _, want := range []int{1, 2, 3, 1} {
		if got := p.Tie(); got != want {
			t.Errorf("Tie() = %d, want %d", got, want)
		}
	}
	if !p.Restart() || !p.Keep(9) || !p.Sign(api.False) || p.Sign(api.True) || !p.Sign(api.False) {
		t.Error("not as the script says")
	}
	if !slices.Equal(mine, []int{1, 2, 3, 77, 78}) {
		t.Error("changed:", mine)
	}
	for i := range mine {
		mine[i] += 101 // all that were odd are even, and the other way about
	}
	conflicts(t, p, 24)
	if !p.Restart() || !p.Keep(9) {
		t.Error("kept")
	}
	if p.Tie() != 2 || p.Sign(api.True) || p.Tie() != 3 || p.Tie() != 1 || !p.Sign(api.False) {
		t.Error("kept")
	}
	if other.Tie() != 1 || other.Least() != 16 || !other.Sign(api.False) {
		t.Error("another one goes on as this one does")
	}
}

// plain is what the chapter says: each list with how often it was asked.
type plain struct {
	s                        api.Script
	restart, keep, tie, sign int
	came, since, least       int
}

// at is the next of list, which was asked so often.
func at(list []int, often *int) int {
	*often++
	if len(list) == 0 {
		return 0
	}
	return list[(*often-1)%len(list)]
}

func (w *plain) Conflict() bool {
	w.came++
	w.since++
	return !(w.s.Conflicts > 0 && w.came > w.s.Conflicts)
}

func (w *plain) Restart() bool {
	if w.since < w.least {
		return false
	}
	if n := at(w.s.Restart, &w.restart); n%2 != 0 {
		w.since = 0
		w.least += 8
		return true
	}
	return false
}

func (w *plain) Keep(score int) bool {
	return score <= 2 || at(w.s.Keep, &w.keep)%2 == 0
}

func (w *plain) Tie() int {
	n := at(w.s.Tie, &w.tie)
	if n >= 0 {
		return n
	}
	return -n - 1
}

func (w *plain) Sign(saved int) bool {
	known := saved == api.True || saved == api.False
	n := at(w.s.Sign, &w.sign) % 4
	if n < 0 {
		n += 4
	}
	switch {
	case n == 1:
		return true
	case n == 2:
		return false
	case !known:
		return n == 3
	default:
		return (saved == api.True) == (n == 0)
	}
}

func (w *plain) Least() int { return w.least }

func (w *plain) Left() int {
	switch {
	case w.s.Conflicts <= 0:
		return -1
	case w.came >= w.s.Conflicts:
		return 0
	default:
		return w.s.Conflicts - w.came
	}
}

// asked is what all calls of a Pace are, and of a plain reading.
type asked interface {
	Conflict() bool
	Restart() bool
	Keep(score int) bool
	Tie() int
	Sign(saved int) bool
	Least() int
	Left() int
}

// ask makes the call of this kind, and tells what it says.
func ask(of asked, kind, n int) string {
	switch kind {
	case 0:
		return fmt.Sprint("Restart ", of.Restart())
	case 1:
		return fmt.Sprint("Keep ", n, of.Keep(n))
	case 2:
		return fmt.Sprint("Tie ", of.Tie())
	case 3:
		return fmt.Sprint("Sign ", n, of.Sign(n))
	case 4:
		return fmt.Sprint("Least ", of.Least())
	case 5:
		return fmt.Sprint("Left ", of.Left())
	default:
		return fmt.Sprint("Conflict ", of.Conflict())
	}
}

// TestPlain: rows of calls at random say what a plain reading says.
func TestPlain(t *testing.T) {
	r := rand.New(rand.NewSource(17))
	list := func() []int {
		out := make([]int, r.Intn(5))
		for i := range out {
			out[i] = r.Intn(13) - 6
		}
		return out
	}
	for range 300 {
		s := api.Script{Restart: list(), Keep: list(), Tie: list(), Sign: list(), Conflicts: r.Intn(600) - 200}
		p, w := pace.New(s), &plain{s: s, least: 16}
		for call := range 1000 {
			kind, n := r.Intn(16), r.Intn(8)-2
			if got, want := ask(p, kind, n), ask(w, kind, n); got != want {
				t.Fatalf("of %v, call %d: %s, want %s", s, call, got, want)
			}
		}
	}
}
