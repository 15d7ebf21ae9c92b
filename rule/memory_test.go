package rule

import (
	"testing"

	"organon/api"
	"organon/expr"
	"organon/samples"
)

// results returns what the calls return for a formula: its plain form, what is detached from an implication from it,
// and it for all x1.
func results(a, implication api.Expr) []api.Expr {
	plain, _ := Plain(a)
	whole, _ := Plain(implication)
	detached, _ := Detach(a, implication)
	general, _ := Gen(a, 1)
	return []api.Expr{plain, whole, detached, general}
}

// texts returns formulas in which something is unfolded or nothing is.
func texts() []string {
	return append(formulas(), "((P0(x0) & ?x1 P1(x1, f0(x1))) | !(P0 | P1(f0(f1, x1), x2)))", "(P0(x1, x1, f0(x2)) > @x0 !x0 = f1(x1))")
}

// R4: no call changes its arguments, nor what is behind their lists.
func TestArgumentsUntouched(t *testing.T) {
	for _, s := range texts() {
		a := roomy(read(t, s))
		implication := roomy(node(api.Imp, 0, read(t, s), read(t, s)))
		kept := samples.Text(implication)
		results(a, implication)
		Equal(a, implication)
		Equal(a, a)
		if !samples.Untouched(a, s) || !samples.Untouched(implication, kept) {
			t.Errorf("%s is changed", s)
		}
	}
	term := roomy(read(t, "f0(x0, f1(x1))"))
	Plain(term)
	Equal(term, term)
	if !samples.Untouched(term, "f0(x0, f1(x1))") {
		t.Error("a term is changed")
	}
}

// R4: results are new memory, also where nothing is unfolded and where an argument holds one list in several places.
func TestResultsAnew(t *testing.T) {
	for _, s := range texts() {
		a := roomy(read(t, s))
		implication := roomy(node(api.Imp, 0, read(t, s), read(t, s)))
		list := append(results(a, implication), results(a, implication)...)
		if !samples.Apart(append(list, a, implication)...) {
			t.Errorf("%s: memory is shared", s)
		}
		doubled := samples.Doubled(2, read(t, s))
		if !samples.Apart(results(doubled, node(api.Imp, 0, doubled, doubled))...) {
			t.Errorf("%s: memory of the argument is shared", s)
		}
	}
	term := read(t, "f0(x0, f1(x1))")
	one, _ := Plain(term)
	two, _ := Plain(node(api.App, 0, term, term))
	if !samples.Apart(one, two, term) {
		t.Error("memory of a term is shared")
	}
}

// R4, R6: what is done to arguments and results after a call does not show, and calls do not show in one another.
func TestNothingKept(t *testing.T) {
	a, implication := read(t, "(P0(x0) & P1)"), read(t, "((P0(x0) & P1) > (P1 | P0(x0)))")
	list := results(a, implication)
	a.Kids[0], implication.Kids[1].Kids[1] = node(api.Atom, 9), node(api.Atom, 8)
	for i, want := range []string{
		"!(P0(x0) > !P1)", "(!(P0(x0) > !P1) > (!P1 > P0(x0)))", "(P1 | P0(x0))", "@x1 (P0(x0) & P1)",
	} {
		if !expr.Same(list[i], read(t, want)) {
			t.Errorf("%s; want %s", text(list[i]), want)
		}
		list[i].Kids[0] = api.Expr{}
	}
	plains(t, a, read(t, "!(P9 > !P1)"), api.OK)
	detaches(t, a, implication, api.Expr{}, api.ErrDetach)
	detaches(t, implication.Kids[0], implication, read(t, "(P1 | P8)"), api.OK)
	gens(t, a, 2, read(t, "@x2 (P9 & P1)"), api.OK)
}
