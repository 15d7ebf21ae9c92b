package intern

import "organon/api"

// node is an expression with the numbers of entries in place of its Kids. Behind the last Kid stands 0, which is
// the number of no entry, so that two nodes are equal, compared as structs, if and only if the expressions are.
type node struct {
	kind, id int
	kids     [api.MaxArgs]int
}

// nodeOf returns the node of e, which is valid; false: one of its Kids has the number 0, that is, none.
func nodeOf(e api.Expr, number func(api.Expr) int) (node, bool) {
	n := node{kind: e.Kind, id: e.Id}
	for i, kid := range e.Kids {
		n.kids[i] = number(kid)
		if n.kids[i] == 0 {
			return node{}, false
		}
	}
	return n, true
}
