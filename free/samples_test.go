package free

import (
	"math/rand"
	"slices"

	"organon/api"
	"organon/samples"
)

// exampleText is the formula a of the chapter's examples.
const exampleText = "(@x1 P0(x0, x1) > P1(x1))"

// The samples under short names.
var (
	node           = samples.Node
	read           = samples.Must
	text           = samples.Short
	bits           = samples.Bits
	isZero         = samples.IsZero
	within         = samples.Within
	sized          = samples.Sized
	first          = samples.First
	looped         = samples.Looped
	doubled        = samples.Doubled
	roomy          = samples.Roomy
	few            = samples.Few()
	outside        = samples.Outside()
	randomVariable = samples.AnyVariable
	randomTerm     = samples.AnyTerm
	randomFormula  = samples.AnyFormula
)

// valid returns valid expressions of many shapes.
func valid() []api.Expr {
	return samples.All(rand.New(rand.NewSource(4)), 2000)
}

// eachWrong calls what it is given with each expression that is not valid and its error.
func eachWrong(call func(e api.Expr, want api.Errno)) {
	for _, w := range samples.Wrong() {
		call(w.Expr, w.Code)
	}
}

// spot is a node of an expression with the nodes around it, from the root on.
type spot struct {
	node   api.Expr
	around []api.Expr
}

// spots returns all nodes of e.
func spots(e api.Expr, around ...api.Expr) []spot {
	list := []spot{{e, around}}
	for _, kid := range e.Kids {
		list = append(list, spots(kid, append(slices.Clone(around), e)...)...)
	}
	return list
}

func quantifies(e api.Expr) bool {
	return slices.Contains([]int{api.All, api.Some}, e.Kind)
}

// occurs reports whether s is an occurrence of x.
func (s spot) occurs(x int) bool {
	return s.node.Kind == api.Var && s.node.Id == x
}

// isBound reports whether an occurrence of a variable is inside a quantifier of that variable.
func (s spot) isBound() bool {
	return slices.ContainsFunc(s.around, func(e api.Expr) bool { return quantifies(e) && e.Id == s.node.Id })
}
