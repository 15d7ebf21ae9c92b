package subst

import (
	"slices"

	"organon/api"
	"organon/expr"
	"organon/free"
	"organon/word"
)

// avoid returns a with the quantifiers renamed that would capture a variable of t, if t were substituted for x.
// ErrVars: no variable is left for one of them.
func avoid(a api.Expr, x int, t api.Expr) (api.Expr, api.Errno) {
	fault := api.OK
	// The part at the empty path is a itself, in new memory: it can be renamed where it is.
	result, _ := expr.At(a, nil)
	vars, _ := free.Vars(t)
	pending := []*api.Expr{&result}
descend:
	for len(pending) > 0 {
		node := pending[len(pending)-1]
		pending = pending[:len(pending)-1]
		if isQuantifier(*node) {
			if is, _ := free.NotFree(x, *node); is {
				continue descend
			}
			if word.Has(vars, node.Id) {
				// x is free inside, so that it is not chosen, either.
				inside, _ := free.Vars(node.Kids[0])
				z := word.Least(^(vars | inside))
				if z < 0 {
					fault = api.ErrVars
					break descend
				}
				renameOne(node, z)
			}
		}
		for i := range slices.Backward(node.Kids) {
			pending = append(pending, &node.Kids[i])
		}
	}
	if fault != api.OK {
		return api.Expr{}, fault
	}
	return result, api.OK
}

// renameOne makes a quantifier name z, which is not among the variables of its Kid.
func renameOne(quantifier *api.Expr, z int) {
	kid := quantifier.Kids[0]
	quantifier.Kids[0] = replaced(kid, []api.Pair{{Var: quantifier.Id, For: variable(z)}}, 0)
	quantifier.Id = z
}

func variable(x int) api.Expr {
	return api.Expr{Kind: api.Var, Id: x}
}

// names says for each variable what its occurrences stand for at a place in an expression.
type names [api.MaxVar + 1]int

// own returns what occurrences stand for where all of them are free: each for its variable.
func own() names {
	var n names
	for x := range n {
		n[x] = x
	}
	return n
}

// naming is a node that has still to be renamed: the names that hold there, and the variables that are taken.
type naming struct {
	node  *api.Expr
	names names
	taken uint64
}

// rename returns a with each quantifier, from the root on, naming the smallest variable that is neither free in a
// (open says which are) nor named by a quantifier around it. ErrVars: no variable is left for one of them.
func rename(a api.Expr, open uint64) (api.Expr, api.Errno) {
	fault := api.OK
	result, _ := expr.At(a, nil)
	pending := []naming{{&result, own(), open}}
descend:
	for len(pending) > 0 {
		here := pending[len(pending)-1]
		pending = pending[:len(pending)-1]
		switch {
		case isVariable(*here.node):
			here.node.Id = here.names[here.node.Id]
		case isQuantifier(*here.node):
			z := word.Least(^here.taken)
			if z < 0 {
				fault = api.ErrVars
				break descend
			}
			here.names[here.node.Id] = z
			here.taken = word.With(here.taken, z)
			here.node.Id = z
		}
		for i := range slices.Backward(here.node.Kids) {
			pending = append(pending, naming{&here.node.Kids[i], here.names, here.taken})
		}
	}
	if fault != api.OK {
		return api.Expr{}, fault
	}
	return result, api.OK
}
