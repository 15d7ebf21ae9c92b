package rule

import (
	"math/rand"
	"testing"

	"organon/api"
	"organon/expr"
	"organon/samples"
)

// The samples under short names.
var (
	read   = samples.Must
	text   = samples.Short
	node   = samples.Node
	within = samples.Within
	sized  = samples.Sized
	roomy  = samples.Roomy
)

// valid returns valid expressions of many shapes.
func valid() []api.Expr {
	return samples.All(rand.New(rand.NewSource(8)), 2000)
}

// eachWrong calls what it is given with each expression that is not valid and its error.
func eachWrong(call func(e api.Expr, want api.Errno)) {
	for _, w := range samples.Wrong() {
		call(w.Expr, w.Code)
	}
}

// outcome fails unless got and fault are want and OK, or nothing and the wanted error.
func outcome(t *testing.T, call string, got api.Expr, fault api.Errno, want api.Expr, wanted api.Errno) {
	t.Helper()
	if fault != wanted || wanted == api.OK && !expr.Same(got, want) || wanted != api.OK && !samples.IsZero(got) {
		t.Errorf("%s = %s, %d; want %s, %d", call, text(got), fault, text(want), wanted)
	}
}

// tall returns a formula without abbreviations that is a chain of so many nodes.
func tall(depth int) api.Expr {
	return within(depth-1, api.Not, 0, node(api.Atom, 0))
}

// joined returns the formulas of a list, joined two by two by nodes of a kind.
func joined(kind int, list []api.Expr) api.Expr {
	for len(list) > 1 {
		list = append(list[2:len(list):len(list)], node(kind, 0, list[0], list[1]))
	}
	return list[0]
}

// atoms returns so many different ones, as far as there are numbers.
func atoms(count int) []api.Expr {
	var list []api.Expr
	for i := range count {
		list = append(list, node(api.Atom, i%(api.MaxId+1)))
	}
	return list
}

// terms returns texts of terms.
func terms() []string {
	return []string{"x0", "x63", "f0", "f99(x0, f1(x2, f2), x1, x1)"}
}

// formulas returns texts of formulas of each kind.
func formulas() []string {
	return []string{
		"P0", "P99(x0, f0(x1))", "x0 = f0", "!P0", "(P0 > P1)", "(P0 & P1)", "(P0 | P1)", "@x0 P0(x0)", "?x63 P0(x63)",
	}
}

// isAbbreviation reports whether the root of e is one.
func isAbbreviation(e api.Expr) bool {
	return e.Kind == api.And || e.Kind == api.Or || e.Kind == api.Some
}

// byWords is the plain form by the words of the chapter, however large it is.
func byWords(e api.Expr) api.Expr {
	var kids []api.Expr
	for _, kid := range e.Kids {
		kids = append(kids, byWords(kid))
	}
	negation := func(a api.Expr) api.Expr { return node(api.Not, 0, a) }
	switch e.Kind {
	case api.And:
		return negation(node(api.Imp, 0, kids[0], negation(kids[1])))
	case api.Or:
		return node(api.Imp, 0, negation(kids[0]), kids[1])
	case api.Some:
		return negation(node(api.All, e.Id, negation(kids[0])))
	}
	return node(e.Kind, e.Id, kids...)
}

// someUnfolded returns e with some of its abbreviations unfolded.
func someUnfolded(r *rand.Rand, e api.Expr) api.Expr {
	var kids []api.Expr
	for _, kid := range e.Kids {
		kids = append(kids, someUnfolded(r, kid))
	}
	negation := func(a api.Expr) api.Expr { return node(api.Not, 0, a) }
	switch unfold := r.Intn(2) == 0; {
	case unfold && e.Kind == api.And:
		return negation(node(api.Imp, 0, kids[0], negation(kids[1])))
	case unfold && e.Kind == api.Or:
		return node(api.Imp, 0, negation(kids[0]), kids[1])
	case unfold && e.Kind == api.Some:
		return negation(node(api.All, e.Id, negation(kids[0])))
	}
	return node(e.Kind, e.Id, kids...)
}

// altered returns the formula a with one formula in it replaced by another one that is often nearly the same.
func altered(r *rand.Rand, a api.Expr) api.Expr {
	var path []int
	part := a
	for len(part.Kids) > 0 && expr.IsFormula(part.Kids[0]) && r.Intn(4) > 0 {
		i := r.Intn(len(part.Kids))
		path, part = append(path, i), part.Kids[i]
	}
	other := samples.AnyFormula(r, 2)
	switch {
	case len(part.Kids) == 2 && expr.IsFormula(part):
		other = node(part.Kind, part.Id, part.Kids[1], part.Kids[0])
	case part.Kind == api.All || part.Kind == api.Some:
		other = node(part.Kind, samples.AnyVariable(r), part.Kids...)
	}
	e, _ := expr.Put(a, path, other)
	return e
}
