package stamp

import "organon/api"

// pair says where two lists of Kids of the same length are in memory.
type pair struct {
	a, b  *api.Expr
	count int
}

// pairs are the lists that were held against each other.
// An expression may hold one list of Kids in many places, or within itself, so that going over its nodes would not end
// in time. A pair need not be compared again: the first difference ends the whole comparison, so that none was found.
type pairs map[pair]struct{}

// same reports whether two expressions, valid or not, are equal node by node.
func (p pairs) same(a, b api.Expr) bool {
	if a.Kind != b.Kind || a.Id != b.Id || len(a.Kids) != len(b.Kids) {
		return false
	}
	if len(a.Kids) == 0 {
		return true
	}
	here := pair{&a.Kids[0], &b.Kids[0], len(a.Kids)}
	if _, compared := p[here]; compared {
		return true
	}
	p[here] = struct{}{}
	for i, kid := range a.Kids {
		if !p.same(kid, b.Kids[i]) {
			return false
		}
	}
	return true
}
