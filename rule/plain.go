package rule

import "organon/api"

// abbreviation is a node that stands for a formula of several nodes.
type abbreviation interface {
	// Only the types below have this method: the type switch in unfolded knows all abbreviations.
	abbreviates()
}

type conjunction struct {
	left, right api.Expr
}

type disjunction struct {
	left, right api.Expr
}

type existence struct {
	x    int
	body api.Expr
}

func (conjunction) abbreviates() {}

func (disjunction) abbreviates() {}

func (existence) abbreviates() {}

// abbreviationOf returns what the root of a valid expression abbreviates; nil: it is no abbreviation.
func abbreviationOf(e api.Expr) abbreviation {
	switch e.Kind {
	case api.And:
		return conjunction{left: e.Kids[0], right: e.Kids[1]}
	case api.Or:
		return disjunction{left: e.Kids[0], right: e.Kids[1]}
	case api.Some:
		return existence{x: e.Id, body: e.Kids[0]}
	}
	return nil
}

// unfolded returns a valid expression with its root unfolded, which then is no abbreviation. The parts that were below
// the root stay as they are, in e's own memory.
func unfolded(e api.Expr) api.Expr {
	switch a := abbreviationOf(e).(type) {
	case conjunction:
		return not(imp(a.left, not(a.right)))
	case disjunction:
		return imp(not(a.left), a.right)
	case existence:
		return not(all(a.x, not(a.body)))
	}
	return e
}

// plain returns the plain form of a valid expression, in new memory, however large it is.
func plain(e api.Expr) api.Expr {
	e = unfolded(e)
	copied := api.Expr{Kind: e.Kind, Id: e.Id}
	if len(e.Kids) > 0 {
		copied.Kids = make([]api.Expr, len(e.Kids))
	}
	for i, kid := range e.Kids {
		copied.Kids[i] = plain(kid)
	}
	return copied
}

// extent is how many nodes an expression has, and how many of them are nested in each other.
type extent struct {
	size, depth int
}

// extentOf returns the extent of the plain form of a valid expression, without building it.
func extentOf(e api.Expr) extent {
	whole := extent{1, 1}
	for _, kid := range unfolded(e).Kids {
		below := extentOf(kid)
		whole.size += below.size
		whole.depth = max(whole.depth, 1+below.depth)
	}
	return whole
}

// fault returns the error of an expression of that extent, if it is too large.
func (n extent) fault() api.Errno {
	switch {
	case n.size > api.MaxNodes:
		return api.ErrMany
	case n.depth > api.MaxDepth:
		return api.ErrDeep
	}
	return api.OK
}

func not(a api.Expr) api.Expr {
	return api.Expr{Kind: api.Not, Kids: []api.Expr{a}}
}

func imp(a, b api.Expr) api.Expr {
	return api.Expr{Kind: api.Imp, Kids: []api.Expr{a, b}}
}

func all(x int, a api.Expr) api.Expr {
	return api.Expr{Kind: api.All, Id: x, Kids: []api.Expr{a}}
}
