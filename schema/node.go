package schema

import "organon/api"

func imp(a, b api.Expr) api.Expr {
	return api.Expr{Kind: api.Imp, Kids: []api.Expr{a, b}}
}

func not(a api.Expr) api.Expr {
	return api.Expr{Kind: api.Not, Kids: []api.Expr{a}}
}

func all(x int, a api.Expr) api.Expr {
	return api.Expr{Kind: api.All, Id: x, Kids: []api.Expr{a}}
}

func equality(t, u api.Expr) api.Expr {
	return api.Expr{Kind: api.Eq, Kids: []api.Expr{t, u}}
}

func isVariable(node api.Expr) bool {
	return node.Kind == api.Var
}

func isQuantifier(node api.Expr) bool {
	return node.Kind == api.All || node.Kind == api.Some
}

// sameHead reports whether a and b are equal but for their Kids.
func sameHead(a, b api.Expr) bool {
	return a.Kind == b.Kind && a.Id == b.Id && len(a.Kids) == len(b.Kids)
}
