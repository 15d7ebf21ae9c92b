package schema

import (
	"math/rand"
	"slices"
	"testing"

	"organon/api"
	"organon/expr"
	"organon/samples"
)

// The samples under short names.
var (
	read   = samples.Must
	text   = samples.Short
	node   = samples.Node
	within = samples.Within
	sized  = samples.Sized
	roomy  = samples.Roomy
)

// parts returns parts whose list has the given texts.
func parts(t *testing.T, x int, texts ...string) api.Parts {
	t.Helper()
	p := api.Parts{Var: x}
	for _, s := range texts {
		p.List = append(p.List, read(t, s))
	}
	return p
}

// told returns parts as a test tells them.
func told(p api.Parts) []string {
	list := []string{text(samples.Variable(p.Var))}
	for _, e := range p.List {
		list = append(list, text(e))
	}
	return list
}

// equalParts reports whether p and q are equal node by node.
func equalParts(p, q api.Parts) bool {
	return p.Var == q.Var && slices.EqualFunc(p.List, q.List, expr.Same)
}

// numbers returns those of the schemas.
func numbers() []int {
	return []int{1, 2, 3, 4, 5, 6, 7}
}

// strangers returns numbers that no schema has.
func strangers() []int {
	return []int{0, 8, -1, -7, 9, 70, 1<<32 + 1, 1 << 62, -1 << 63}
}

// isTerm says for each part of schema k whether it is a term.
func isTerm(k int) []bool {
	return [][]bool{
		1: {false, false}, 2: {false, false, false}, 3: {false, false}, 4: {false, true}, 5: {false, false},
		6: {true}, 7: {true, true, false, false},
	}[k]
}

// hasVariable reports whether schema k has one.
func hasVariable(k int) bool {
	return k == 4 || k == 5
}

// byTable returns the formula of the chapter's table with the given parts, whatever the side condition and the size.
func byTable(k int, p api.Parts) api.Expr {
	l := p.List
	imp := func(a, b api.Expr) api.Expr { return node(api.Imp, 0, a, b) }
	switch k {
	case 1:
		return imp(l[0], imp(l[1], l[0]))
	case 2:
		return imp(imp(l[0], imp(l[1], l[2])), imp(imp(l[0], l[1]), imp(l[0], l[2])))
	case 3:
		return imp(imp(node(api.Not, 0, l[0]), node(api.Not, 0, l[1])), imp(l[1], l[0]))
	case 4:
		return imp(node(api.All, p.Var, l[0]), filled(l[0], p.Var, l[1]))
	case 5:
		return imp(node(api.All, p.Var, imp(l[0], l[1])), imp(l[0], node(api.All, p.Var, l[1])))
	case 6:
		return node(api.Eq, 0, l[0], l[0])
	}
	return imp(node(api.Eq, 0, l[0], l[1]), imp(l[2], l[3]))
}

// filled returns a with t in place of the free occurrences of x, whatever is captured.
func filled(a api.Expr, x int, t api.Expr) api.Expr {
	if a.Kind == api.Var && a.Id == x {
		return t
	}
	if quantifies(a) && a.Id == x {
		return a
	}
	e := node(a.Kind, a.Id)
	for _, kid := range a.Kids {
		e.Kids = append(e.Kids, filled(kid, x, t))
	}
	return e
}

// isFree reports whether x has a free occurrence in a, that is, whether something that is not in a can be put for x.
func isFree(x int, a api.Expr) bool {
	return !expr.Same(filled(a, x, node(api.App, 98)), a)
}

func quantifies(e api.Expr) bool {
	return e.Kind == api.All || e.Kind == api.Some
}

// sideByWords reports whether the side condition of schema k holds, by the words of the table.
func sideByWords(k int, p api.Parts) bool {
	switch k {
	case 4:
		return !captures(p.List[0], p.Var, variables(p.List[1]), nil)
	case 5:
		return !isFree(p.Var, p.List[0])
	case 7:
		return swappedByWords(p.List[2], p.List[3], p.List[0], p.List[1])
	}
	return true
}

// captures reports whether a free occurrence of x in a is inside a quantifier of one of the variables: around are the
// variables of the quantifiers around a.
func captures(a api.Expr, x int, vars, around []int) bool {
	if a.Kind == api.Var && a.Id == x && !slices.Contains(around, x) {
		return slices.ContainsFunc(around, func(y int) bool { return slices.Contains(vars, y) })
	}
	if quantifies(a) {
		around = append(slices.Clone(around), a.Id)
	}
	return slices.ContainsFunc(a.Kids, func(kid api.Expr) bool { return captures(kid, x, vars, around) })
}

// variables returns the variables of a term.
func variables(t api.Expr) []int {
	var list []int
	for _, part := range expr.All(t) {
		if part.Kind == api.Var {
			list = append(list, part.Id)
		}
	}
	return list
}

// replaceable returns the paths to the parts of a that are equal to t and not inside a quantifier of one of the variables.
func replaceable(a, t api.Expr, vars, path []int) [][]int {
	if expr.Same(a, t) {
		return [][]int{slices.Clone(path)}
	}
	if quantifies(a) && slices.Contains(vars, a.Id) {
		return nil
	}
	var paths [][]int
	for i, kid := range a.Kids {
		paths = append(paths, replaceable(kid, t, vars, append(slices.Clone(path), i))...)
	}
	return paths
}

// swappedByWords is Swapped by the words of the chapter: some of the places get u, in all ways that there are.
func swappedByWords(a, b, t, u api.Expr) bool {
	paths := replaceable(a, t, append(variables(t), variables(u)...), nil)
	for some := range 1 << len(paths) {
		e := a
		for i, path := range paths {
			if some>>i&1 == 1 {
				e, _ = expr.Put(e, path, u)
			}
		}
		if expr.Same(e, b) {
			return true
		}
	}
	return false
}

// chosen returns all lists of expressions, the sorts of which are given, out of those in the list.
func chosen(sorts []bool, list []api.Expr) [][]api.Expr {
	if len(sorts) == 0 {
		return [][]api.Expr{nil}
	}
	var all [][]api.Expr
	for _, rest := range chosen(sorts[1:], list) {
		for _, e := range list {
			if expr.IsTerm(e) == sorts[0] {
				all = append(all, append([]api.Expr{e}, rest...))
			}
		}
	}
	return all
}

// partsByWords returns all parts with which e is the instance of schema k, the terms among them being terms in e.
func partsByWords(k int, e api.Expr) []api.Parts {
	inside := distinct(e)
	vars := []int{0}
	if hasVariable(k) {
		vars = samples.Few()
	}
	var found []api.Parts
	for _, list := range chosen(isTerm(k), inside) {
		for _, x := range vars {
			p := api.Parts{List: list, Var: x}
			if expr.Same(byTable(k, p), e) && sideByWords(k, p) {
				found = append(found, p)
			}
		}
	}
	return found
}

// distinct returns the parts of e, each once.
func distinct(e api.Expr) []api.Expr {
	var list []api.Expr
	for _, part := range expr.All(e) {
		if !slices.ContainsFunc(list, func(other api.Expr) bool { return expr.Same(part, other) }) {
			list = append(list, part)
		}
	}
	return list
}

// smallTerm returns an arbitrary term of one to three nodes.
func smallTerm(r *rand.Rand) api.Expr {
	switch r.Intn(6) {
	case 0:
		return node(api.App, r.Intn(2))
	case 1:
		return node(api.App, 0, smallTerm(r))
	}
	return samples.Variable(samples.AnyVariable(r))
}

// smallFormula returns an arbitrary formula with few nodes.
func smallFormula(r *rand.Rand, depth int) api.Expr {
	kind := r.Intn(9)
	if depth <= 1 {
		kind = r.Intn(3)
	}
	switch kind {
	case 0:
		return node(api.Atom, r.Intn(2))
	case 1:
		return node(api.Atom, 0, smallTerm(r))
	case 2:
		return node(api.Eq, 0, smallTerm(r), smallTerm(r))
	case 3:
		return node(api.Not, 0, smallFormula(r, depth-1))
	case 4:
		return node([]int{api.Imp, api.And, api.Or}[r.Intn(3)], 0, smallFormula(r, depth-1), smallFormula(r, depth-1))
	}
	return node([]int{api.All, api.Some}[r.Intn(2)], samples.AnyVariable(r), smallFormula(r, depth-1))
}

// anyParts returns arbitrary parts for schema k with which the side condition often holds.
func anyParts(r *rand.Rand, k int) api.Parts {
	var p api.Parts
	for _, term := range isTerm(k) {
		if term {
			p.List = append(p.List, smallTerm(r))
		} else {
			p.List = append(p.List, smallFormula(r, 1+r.Intn(3)))
		}
	}
	if hasVariable(k) {
		p.Var = samples.AnyVariable(r)
	}
	if k == 7 && r.Intn(8) > 0 {
		p.List[3] = someSwapped(r, p.List[2], p.List[0], p.List[1])
	}
	return p
}

// anySwap returns an arbitrary formula, a term that is often in it, and another term.
func anySwap(r *rand.Rand) (a, t, u api.Expr) {
	a, t, u = smallFormula(r, 1+r.Intn(4)), smallTerm(r), smallTerm(r)
	inside := slices.DeleteFunc(distinct(a), expr.IsFormula)
	if len(inside) > 0 && r.Intn(4) > 0 {
		t = inside[r.Intn(len(inside))]
	}
	return a, t, u
}

// someSwapped returns a with u in place of some of the parts that are equal to t, inside whatever quantifiers.
func someSwapped(r *rand.Rand, a, t, u api.Expr) api.Expr {
	if r.Intn(3) > 0 && expr.Same(a, t) {
		return u
	}
	e := node(a.Kind, a.Id)
	for _, kid := range a.Kids {
		e.Kids = append(e.Kids, someSwapped(r, kid, t, u))
	}
	return e
}

// altered returns a with one part replaced by another one of the same sort, or with a quantifier of another name.
func altered(r *rand.Rand, a api.Expr) api.Expr {
	var path []int
	part := a
	for len(part.Kids) > 0 && r.Intn(5) > 0 {
		i := r.Intn(len(part.Kids))
		path, part = append(path, i), part.Kids[i]
	}
	var other api.Expr
	switch {
	case quantifies(part) && r.Intn(2) == 0:
		other = node(part.Kind, samples.AnyVariable(r), part.Kids...)
	case expr.IsTerm(part):
		other = smallTerm(r)
	default:
		other = smallFormula(r, 2)
	}
	e, _ := expr.Put(a, path, other)
	return e
}
