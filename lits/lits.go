// Package lits: literals and clauses: see ../shared/doc/01-lits.md.
package lits

import (
	"cmp"
	"slices"

	"skolem/api"
)

// Var is the literal's variable: l without its sign.
func Var(l int) int {
	if l < 0 {
		return -l
	}
	return l
}

// Is tells whether l is right for so many variables.
func Is(l, vars int) bool {
	v := Var(l)
	return v >= 1 && v <= vars
}

// Norm is the literals of c, each once, by Var, of one Var the one below 0
// first, and whether none of them stands there with its opposite.
func Norm(c ...int) ([]int, bool) {
	n := slices.Clone(c)
	slices.SortFunc(n, order)
	n = slices.Compact(n)
	for i := 1; i < len(n); i++ {
		if n[i] == -n[i-1] { // a 0 stands there once, so it never meets itself here
			return n, false
		}
	}
	return n, true
}

// order is the one that Norm sorts by.
func order(a, b int) int {
	return cmp.Or(cmp.Compare(Var(a), Var(b)), cmp.Compare(a, b))
}

// Check tells what is wrong with c: it is too much of it, or one of its clauses
// has a literal that is not right.
func Check(c api.CNF) error {
	if c.Vars < 0 || c.Vars > api.MaxVars || len(c.Clauses) > api.MaxClauses {
		return api.ErrLimit
	}
	all := 0
	for _, d := range c.Clauses {
		all += len(d)
		if all > api.MaxLits {
			return api.ErrLimit
		}
	}
	for i, d := range c.Clauses {
		for _, l := range d {
			if !Is(l, c.Vars) {
				return &api.At{Pos: i, Err: api.ErrRange}
			}
		}
	}
	return nil
}

// Same tells whether a and b are the same clause, by Norm.
func Same(a, b []int) bool {
	x, _ := Norm(a...)
	y, _ := Norm(b...)
	return slices.Equal(x, y)
}

// Rename is c with by[v] in each variable v's place, the literal's sign kept.
func Rename(c []int, by []int) ([]int, bool) {
	out := make([]int, 0, len(c))
	for _, l := range c {
		v := Var(l)
		if !Is(l, len(by)-1) || by[v] == 0 {
			return nil, false
		}
		if l < 0 {
			out = append(out, -by[v])
		} else {
			out = append(out, by[v])
		}
	}
	return out, true
}
