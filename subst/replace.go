package subst

import (
	"slices"

	"organon/api"
	"organon/expr"
	"organon/word"
)

// faultOf returns the error of the arguments of a substitution that does not hang on what would be captured.
func faultOf(a api.Expr, l []api.Pair) api.Errno {
	vars := uint64(0)
	for _, p := range l {
		if p.Var < 0 || p.Var > api.MaxVar || word.Has(vars, p.Var) {
			return api.ErrArg
		}
		vars = word.With(vars, p.Var)
	}
	if fault := expr.Right(a); fault != api.OK {
		return fault
	}
	for _, p := range l {
		if fault := expr.Right(p.For); fault != api.OK {
			return fault
		}
	}
	for _, p := range l {
		if !expr.IsTerm(p.For) {
			return api.ErrSort
		}
	}
	return api.OK
}

// replace returns a with the terms of l in place of the free occurrences of their variables, whatever captures them.
// ErrMany, ErrDeep: that would be too large.
func replace(a api.Expr, l []api.Pair) (api.Expr, api.Errno) {
	if fault := measure(a, l); fault != api.OK {
		return api.Expr{}, fault
	}
	return replaced(a, l, 0), api.OK
}

// spot is a node that a traversal has still to visit: how deep it is, and the variables that quantifiers around it name.
type spot struct {
	node  api.Expr
	depth int
	bound uint64
}

// measure returns the error of the expression that replace would build, without building it.
func measure(a api.Expr, l []api.Pair) api.Errno {
	size, deepest := 0, 0
	pending := []spot{{node: a, depth: 1}}
count:
	for len(pending) > 0 {
		s := pending[len(pending)-1]
		pending = pending[:len(pending)-1]
		// Only a term can lie too deep, as a is valid.
		if t, is := termFor(s.node, l, s.bound); is {
			size += expr.Size(t)
			deepest = max(deepest, s.depth-1+expr.Depth(t))
		} else {
			size++
		}
		if size > api.MaxNodes {
			break count
		}
		for _, kid := range s.node.Kids {
			pending = append(pending, spot{kid, s.depth + 1, boundBelow(s.node, s.bound)})
		}
	}
	switch {
	case size > api.MaxNodes:
		return api.ErrMany
	case deepest > api.MaxDepth:
		return api.ErrDeep
	}
	return api.OK
}

// replaced is replace for a part of an expression, with the variables that quantifiers around the part name.
func replaced(e api.Expr, l []api.Pair, bound uint64) api.Expr {
	if t, is := termFor(e, l, bound); is {
		// The part at the empty path is t itself, in new memory.
		anew, _ := expr.At(t, nil)
		return anew
	}
	copied := api.Expr{Kind: e.Kind, Id: e.Id}
	for _, kid := range e.Kids {
		copied.Kids = append(copied.Kids, replaced(kid, l, boundBelow(e, bound)))
	}
	return copied
}

// termFor returns the term that stands for a node, if the node is a free occurrence of a variable of l.
func termFor(node api.Expr, l []api.Pair, bound uint64) (api.Expr, bool) {
	if !isVariable(node) || word.Has(bound, node.Id) {
		return api.Expr{}, false
	}
	i := slices.IndexFunc(l, func(p api.Pair) bool { return p.Var == node.Id })
	if i < 0 {
		return api.Expr{}, false
	}
	return l[i].For, true
}

// boundBelow returns the variables that quantifiers around the Kids of a node name, given those around the node.
func boundBelow(node api.Expr, bound uint64) uint64 {
	if isQuantifier(node) {
		return word.With(bound, node.Id)
	}
	return bound
}

func isVariable(node api.Expr) bool {
	return node.Kind == api.Var
}

func isQuantifier(node api.Expr) bool {
	return node.Kind == api.All || node.Kind == api.Some
}
