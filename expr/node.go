package expr

import (
	"cmp"
	"iter"

	"organon/api"
)

// sort is what a node is by its Kind.
type sort int

const (
	neither sort = iota
	term
	formula
)

// shape is a row of the chapter's table: what a node of a Kind may be.
type shape struct {
	mostId              int
	leastKids, mostKids int
	kids                sort
}

// head is a node without its Kids; two of them are compared as structs.
type head struct {
	kind, id, kids int
}

// nodes yields each node of e, valid or not, before its Kids, with its depth.
// It goes no further than the loop over it asks, as e may have no end.
func nodes(e api.Expr) iter.Seq2[int, api.Expr] {
	return func(yield func(int, api.Expr) bool) {
		visit(e, 1, yield)
	}
}

// visit reports whether yield asked for more after the last node of e.
func visit(e api.Expr, depth int, yield func(int, api.Expr) bool) bool {
	if !yield(depth, e) {
		return false
	}
	for _, kid := range e.Kids {
		if !visit(kid, depth+1, yield) {
			return false
		}
	}
	return true
}

// sortOf returns the sort of the root of e.
func sortOf(e api.Expr) sort {
	switch {
	case e.Kind >= api.Var && e.Kind <= api.App:
		return term
	case e.Kind >= api.Atom && e.Kind <= api.Some:
		return formula
	}
	return neither
}

// shapeOf returns what a node of a Kind may be; there is nothing that a node of another Kind may be.
func shapeOf(kind int) (shape, bool) {
	switch kind {
	case api.Var:
		return shape{api.MaxVar, 0, 0, neither}, true
	case api.App, api.Atom:
		return shape{api.MaxId, 0, api.MaxArgs, term}, true
	case api.Eq:
		return shape{0, 2, 2, term}, true
	case api.Not:
		return shape{0, 1, 1, formula}, true
	case api.Imp, api.And, api.Or:
		return shape{0, 2, 2, formula}, true
	case api.All, api.Some:
		return shape{api.MaxVar, 1, 1, formula}, true
	}
	return shape{}, false
}

// conforms reports whether the root of e is as the table says; of its Kids it examines the sort alone.
func conforms(e api.Expr) bool {
	s, known := shapeOf(e.Kind)
	if !known || e.Id < 0 || e.Id > s.mostId {
		return false
	}
	// The number comes first: there may be very many Kids.
	if len(e.Kids) < s.leastKids || len(e.Kids) > s.mostKids {
		return false
	}
	for _, kid := range e.Kids {
		if sortOf(kid) != s.kids {
			return false
		}
	}
	return true
}

// headOf returns the head of the root of e.
func headOf(e api.Expr) head {
	return head{e.Kind, e.Id, len(e.Kids)}
}

// order compares two valid expressions.
func order(a, b api.Expr) int {
	if x, y := headOf(a), headOf(b); x != y {
		return cmp.Or(cmp.Compare(x.kind, y.kind), cmp.Compare(x.id, y.id), cmp.Compare(x.kids, y.kids))
	}
	for i, kid := range a.Kids {
		if c := order(kid, b.Kids[i]); c != 0 {
			return c
		}
	}
	return 0
}
