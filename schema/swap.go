package schema

import (
	"organon/api"
	"organon/expr"
	"organon/free"
)

// swap says what may stand in place of what: u in place of t, but not inside a quantifier of one of the variables.
type swap struct {
	t, u api.Expr
	vars uint64
}

// swapped reports whether the formula b is the formula a with the term t swapped for the term u.
func swapped(a, b, t, u api.Expr) bool {
	ofT, _ := free.Vars(t)
	ofU, _ := free.Vars(u)
	return swap{t: t, u: u, vars: ofT | ofU}.leads(a, b)
}

// leads reports whether a part b is a part a with u in place of some of the parts that are equal to t.
func (s swap) leads(a, b api.Expr) bool {
	// The head comes first: it is mostly another one, and the whole of t is not looked at then.
	if sameHead(a, s.t) && expr.Same(a, s.t) && expr.Same(b, s.u) {
		return true
	}
	if !sameHead(a, b) {
		return false
	}
	if isQuantifier(a) && s.vars>>a.Id&1 == 1 {
		return expr.Same(a, b)
	}
	// No part of t is equal to t: where a is t and stays, nothing below it is replaced, either.
	for i := range a.Kids {
		if !s.leads(a.Kids[i], b.Kids[i]) {
			return false
		}
	}
	return true
}
