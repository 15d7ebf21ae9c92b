package subst

import "organon/api"

// couple is two corresponding nodes that have still to be compared: how deep they are, and what the names stand for there.
type couple struct {
	a, b           api.Expr
	depth          int
	aNames, bNames names
}

// equivalent reports whether two valid expressions are alpha equivalent.
// An occurrence stands for its variable if it is free, and otherwise for the depth of the quantifier that binds it,
// which no variable's number is equal to.
func equivalent(a, b api.Expr) bool {
	equal := true
	pending := []couple{{a: a, b: b, depth: 1, aNames: own(), bNames: own()}}
compare:
	for len(pending) > 0 {
		here := pending[len(pending)-1]
		pending = pending[:len(pending)-1]
		equal = here.agrees()
		if !equal {
			break compare
		}
		if isQuantifier(here.a) {
			here.aNames[here.a.Id] = api.MaxVar + here.depth
			here.bNames[here.b.Id] = api.MaxVar + here.depth
		}
		for i := range here.a.Kids {
			pending = append(pending, couple{here.a.Kids[i], here.b.Kids[i], here.depth + 1, here.aNames, here.bNames})
		}
	}
	return equal
}

// agrees reports whether the two nodes correspond, whatever their Kids are.
func (c couple) agrees() bool {
	switch {
	case c.a.Kind != c.b.Kind || len(c.a.Kids) != len(c.b.Kids):
		return false
	case isVariable(c.a):
		return c.aNames[c.a.Id] == c.bNames[c.b.Id]
	case isQuantifier(c.a):
		return true
	}
	return c.a.Id == c.b.Id
}
