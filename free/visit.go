package free

import (
	"organon/api"
	"organon/expr"
	"organon/word"
)

// visit passes each node of e to found, with the set of the variables that the quantifiers around the node name.
// The set around e itself is given.
func visit(e api.Expr, around uint64, found func(node api.Expr, around uint64)) {
	found(e, around)
	if isQuantifier(e) {
		around = word.With(around, e.Id)
	}
	for _, kid := range e.Kids {
		visit(kid, around, found)
	}
}

// idsOf returns the set of the Ids of the wanted nodes of e, or the error of e.
func idsOf(e api.Expr, wanted func(node api.Expr, around uint64) bool) (uint64, api.Errno) {
	// One that is not valid may have no end.
	if fault := expr.Right(e); fault != api.OK {
		return 0, fault
	}
	set := uint64(0)
	visit(e, 0, func(node api.Expr, around uint64) {
		if wanted(node, around) {
			set = word.With(set, node.Id)
		}
	})
	return set, api.OK
}

// isFree reports whether a node is a free occurrence of a variable, with the given set around it.
func isFree(node api.Expr, around uint64) bool {
	return isVariable(node) && !word.Has(around, node.Id)
}

func isVariable(node api.Expr) bool {
	return node.Kind == api.Var
}

func isQuantifier(node api.Expr) bool {
	return node.Kind == api.All || node.Kind == api.Some
}

// isNumber reports whether x is the number of a variable.
func isNumber(x int) bool {
	return x >= 0 && x <= api.MaxVar
}
