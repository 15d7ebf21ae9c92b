package subst

import (
	"testing"

	"organon/api"
	"organon/expr"
	"organon/samples"
)

// results returns what the calls return for a, x0 and a term, and for a list with the term.
func results(a, term api.Expr, l []api.Pair) []api.Expr {
	put, _ := Put(a, 0, term)
	safe, _ := Safe(a, 0, term)
	each, _ := Each(a, l)
	none, _ := Each(a, nil)
	absent, _ := Put(a, 63, term)
	canon, _ := Canon(a)
	return []api.Expr{put, safe, each, none, absent, canon}
}

// texts are formulas and terms in which something is replaced, captured or renamed, or nothing at all.
var texts = []string{
	"P0(x0, f0(x0), x1)", "@x1 P0(x0, x1)", "@x0 P0(x0)", "@x2 (P0(x0) > ?x2 P0(x0, x2))", "P0", "x0", "f0", "f0(x0, f1(x0))",
	"(@x5 P0(x5) & !x0 = f1(f2))", "@x1 @x2 P0(x0, x1, x2)",
}

// R4: no call changes its arguments, nor what is behind their lists.
func TestArgumentsUntouched(t *testing.T) {
	const termText = "f0(x1, x2, x0)"
	for _, s := range append(texts, samples.Text(valid()[20]), samples.Text(valid()[40])) {
		a, term, other := roomy(read(t, s)), roomy(read(t, termText)), roomy(read(t, "f3(x7)"))
		l := make([]api.Pair, 2, 3)
		l[0], l[1], l[:3][2] = api.Pair{Var: 0, For: term}, api.Pair{Var: 1, For: other}, api.Pair{Var: 77}
		results(a, term, l)
		Alpha(a, term)
		Alpha(a, a)
		if !samples.Untouched(a, s) || !samples.Untouched(term, termText) || !samples.Untouched(other, "f3(x7)") {
			t.Errorf("%s, or a term, is changed", s)
		}
		if l[0].Var != 0 || l[1].Var != 1 || l[:3][2].Var != 77 || !expr.Same(l[0].For, term) {
			t.Errorf("%s: the list is changed", s)
		}
	}
}

// R4: results are new memory: each copy of a term, each result, and what nothing is replaced in.
func TestResultsAnew(t *testing.T) {
	for _, s := range texts {
		a, term := roomy(read(t, s)), roomy(read(t, "f0(x1, f1(x2), x0)"))
		l := []api.Pair{{Var: 0, For: term}}
		if !samples.Apart(append(append(results(a, term, l), results(a, term, l)...), a, term)...) {
			t.Errorf("%s: memory is shared", s)
		}
		// An argument may hold one list in several places; the result does not.
		part := read(t, s)
		if expr.IsFormula(part) && !samples.Apart(results(samples.Doubled(2, part), read(t, "f0(x7)"), nil)...) {
			t.Errorf("%s: memory of the argument is shared", s)
		}
	}
	shared := read(t, "f0(f1)")
	term := node(api.App, 0, shared, shared)
	got, fault := Put(read(t, "P0(x0, x0)"), 0, term)
	if fault != api.OK || !samples.Apart(got) {
		t.Errorf("the memory of the term is shared, %d", fault)
	}
}

// R4, R6: what is done to the arguments after a call does not show, and calls do not show in one another.
func TestNothingKept(t *testing.T) {
	a, term := read(t, "@x1 P0(x0, x1)"), read(t, "f0(x2)")
	got, _ := Safe(a, 0, term)
	a.Kids[0].Kids[1], term.Kids[0] = node(api.App, 9), node(api.App, 8)
	if samples.Text(got) != "@x1 P0(f0(x2), x1)" {
		t.Errorf("%s", text(got))
	}
	got.Kids[0].Kids[0] = api.Expr{}
	safes(t, a, 0, term, read(t, "@x1 P0(f0(f8), f9)"), api.OK)
}
