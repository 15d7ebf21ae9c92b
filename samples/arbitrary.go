package samples

import "organon/api"

// Chooser chooses a number below n; tests pass one that always chooses the same for the same seed.
type Chooser interface {
	Intn(n int) int
}

// Few returns the variables of arbitrary expressions: so few that the same one is often both free and bound.
func Few() []int {
	return []int{0, 1, 62, 63}
}

// AnyVariable returns one of Few.
func AnyVariable(r Chooser) int {
	return Few()[r.Intn(len(Few()))]
}

// AnyTerm returns an arbitrary term that is at most so deep.
func AnyTerm(r Chooser, depth int) api.Expr {
	if depth == 1 || r.Intn(2) == 0 {
		return Variable(AnyVariable(r))
	}
	return withTerms(r, Node(api.App, r.Intn(api.MaxId+1)), depth)
}

// AnyFormula returns an arbitrary formula that is at most so deep, but for the terms in it.
func AnyFormula(r Chooser, depth int) api.Expr {
	if depth == 1 || r.Intn(8) == 0 {
		return anyAtom(r)
	}
	switch r.Intn(6) {
	case 0:
		return Node(api.Not, 0, AnyFormula(r, depth-1))
	case 1:
		return Node([]int{api.Imp, api.And, api.Or}[r.Intn(3)], 0, AnyFormula(r, depth-1), AnyFormula(r, depth-1))
	}
	return Node([]int{api.All, api.Some}[r.Intn(2)], AnyVariable(r), AnyFormula(r, depth-1))
}

func anyAtom(r Chooser) api.Expr {
	const depth = 4
	if r.Intn(3) == 0 {
		return Node(api.Eq, 0, AnyTerm(r, depth-1), AnyTerm(r, depth-1))
	}
	return withTerms(r, Node(api.Atom, r.Intn(api.MaxId+1)), depth)
}

// withTerms returns e with some arbitrary terms as its Kids.
func withTerms(r Chooser, e api.Expr, depth int) api.Expr {
	for range r.Intn(api.MaxArgs + 1) {
		e.Kids = append(e.Kids, AnyTerm(r, depth-1))
	}
	return e
}

// All returns valid expressions of many shapes, some of them at the limits.
func All(r Chooser, count int) []api.Expr {
	list := []api.Expr{
		First(1), First(4), First(5), First(64), Sized(1000),
		Within(99, api.All, 63, Node(api.Atom, 0)), Within(99, api.App, 0, Variable(63)),
	}
	for len(list) < count {
		list = append(list, AnyFormula(r, 2+r.Intn(6)), AnyTerm(r, 4))
	}
	return list
}
