package free

import (
	"math"
	"math/rand"
	"slices"
	"testing"

	"organon/api"
	"organon/expr"
	"organon/parse"
)

// exampleText is the formula a of the chapter's examples.
const exampleText = "(@x1 P0(x0, x1) > P1(x1))"

// outside are numbers that no variable has.
var outside = []int{-1, 64, 65, 99, 128, -63, -64, math.MinInt, math.MaxInt, 1 << 32, 1<<32 + 3}

func node(kind, id int, kids ...api.Expr) api.Expr {
	return api.Expr{Kind: kind, Id: id, Kids: kids}
}

// read returns the formula or term whose text s is.
func read(t *testing.T, s string) api.Expr {
	t.Helper()
	e, fault, _ := parse.Formula(s)
	if fault != api.OK {
		e, fault, _ = parse.Term(s)
	}
	if fault != api.OK {
		t.Fatalf("%q is no formula and no term", s)
	}
	return e
}

// text returns the text of e, or nothing if e is not valid.
func text(e api.Expr) string {
	s, _ := parse.Print(e)
	return s
}

// bits returns the set of the given variables.
func bits(list ...int) uint64 {
	set := uint64(0)
	for _, x := range list {
		set |= 1 << x
	}
	return set
}

// within returns e within so many nodes of a kind with one kid.
func within(times, kind, id int, e api.Expr) api.Expr {
	for range times {
		e = node(kind, id, e)
	}
	return e
}

// sized returns a formula of low depth with so many nodes and no variables.
func sized(count int) api.Expr {
	switch count {
	case 1:
		return node(api.Atom, 0)
	case 2:
		return node(api.Not, 0, sized(1))
	}
	left := (count - 1) / 2
	return node(api.Imp, 0, sized(left), sized(count-1-left))
}

// first returns a formula in which the variables below count are free: atoms of four of them, joined two by two.
func first(count int) api.Expr {
	var list []api.Expr
	for x := range count {
		if x%api.MaxArgs == 0 {
			list = append(list, node(api.Atom, 0))
		}
		last := &list[len(list)-1]
		last.Kids = append(last.Kids, node(api.Var, x))
	}
	for len(list) > 1 {
		list = append(list[2:], node(api.Or, 0, list[0], list[1]))
	}
	return list[0]
}

// looped returns an expression without an end: a quantifier that contains itself.
func looped() api.Expr {
	e := node(api.All, 0, node(api.Atom, 0))
	e.Kids[0] = e
	return e
}

// doubled returns 2^times copies of e in one tree, all of them in the same memory.
func doubled(times int, e api.Expr) api.Expr {
	for range times {
		e = node(api.And, 0, e, e)
	}
	return e
}

// wrong returns expressions that are not valid, each with what expr.Right returns for it.
func wrong() map[api.Errno][]api.Expr {
	x, p := node(api.Var, 0), node(api.Atom, 0)
	return map[api.Errno][]api.Expr{
		api.ErrShape: {
			{}, node(11, 0), node(-1, 0), node(math.MaxInt, math.MinInt),
			node(api.Var, 64), node(api.Var, -1), node(api.Var, 0, x), node(api.App, 100), node(api.App, 0, p),
			node(api.Atom, 0, x, node(api.Var, 64)), node(api.Atom, 0, x, x, x, x, x), node(api.Eq, 0, x),
			node(api.Not, 0, x), node(api.All, 64, p), node(api.Some, -1, p), node(api.All, 0), node(api.Some, 0, x),
			node(api.All, 0, p, p), within(98, api.Not, 0, x),
		},
		api.ErrMany: {
			sized(1001), within(1000, api.All, 0, p), within(1<<16, api.App, 0, x), doubled(40, p), looped(),
			node(api.Atom, 0, slices.Repeat([]api.Expr{x}, 1000)...),
		},
		api.ErrDeep: {
			within(100, api.Not, 0, p), within(100, api.App, 0, x), within(999, api.Some, 64, p), within(100, api.All, 0, x),
		},
	}
}

// eachWrong calls what it is given with each wrong expression and its error.
func eachWrong(call func(e api.Expr, want api.Errno)) {
	for want, list := range wrong() {
		for _, e := range list {
			call(e, want)
		}
	}
}

// TestWrongSamples: the samples are wrong in the way that they are filed under.
func TestWrongSamples(t *testing.T) {
	eachWrong(func(e api.Expr, want api.Errno) {
		if fault := expr.Right(e); fault != want {
			t.Errorf("%d, %d: %d; want %d", e.Kind, e.Id, fault, want)
		}
	})
}

// few are the variables of random expressions: so few that the same one is often both free and bound.
var few = []int{0, 1, 62, 63}

func randomVariable(r *rand.Rand) int {
	return few[r.Intn(len(few))]
}

func randomTerm(r *rand.Rand, depth int) api.Expr {
	if depth == 1 || r.Intn(2) == 0 {
		return node(api.Var, randomVariable(r))
	}
	e := node(api.App, r.Intn(api.MaxId+1))
	for range r.Intn(api.MaxArgs + 1) {
		e.Kids = append(e.Kids, randomTerm(r, depth-1))
	}
	return e
}

func randomFormula(r *rand.Rand, depth int) api.Expr {
	if depth == 1 || r.Intn(8) == 0 {
		if r.Intn(3) == 0 {
			return node(api.Eq, 0, randomTerm(r, 3), randomTerm(r, 3))
		}
		e := node(api.Atom, r.Intn(api.MaxId+1))
		for range r.Intn(api.MaxArgs + 1) {
			e.Kids = append(e.Kids, randomTerm(r, 3))
		}
		return e
	}
	switch r.Intn(6) {
	case 0:
		return node(api.Not, 0, randomFormula(r, depth-1))
	case 1:
		return node([]int{api.Imp, api.And, api.Or}[r.Intn(3)], 0, randomFormula(r, depth-1), randomFormula(r, depth-1))
	}
	return node([]int{api.All, api.Some}[r.Intn(2)], randomVariable(r), randomFormula(r, depth-1))
}

// samples returns valid expressions of many shapes.
func samples() []api.Expr {
	r := rand.New(rand.NewSource(4))
	list := []api.Expr{first(1), first(4), first(5), first(64), sized(1000), within(99, api.All, 63, node(api.Atom, 0)), within(99, api.App, 0, node(api.Var, 63))}
	for range 1000 {
		list = append(list, randomFormula(r, 2+r.Intn(6)), randomTerm(r, 4))
	}
	return list
}

// spot is a node of an expression with the nodes around it, from the root on.
type spot struct {
	node   api.Expr
	around []api.Expr
}

// spots returns all nodes of e.
func spots(e api.Expr, around ...api.Expr) []spot {
	list := []spot{{e, around}}
	for _, kid := range e.Kids {
		list = append(list, spots(kid, append(slices.Clone(around), e)...)...)
	}
	return list
}

func quantifies(e api.Expr) bool {
	return slices.Contains([]int{api.All, api.Some}, e.Kind)
}

// occurs reports whether s is an occurrence of x.
func (s spot) occurs(x int) bool {
	return s.node.Kind == api.Var && s.node.Id == x
}

// isBound reports whether an occurrence of a variable is inside a quantifier of that variable.
func (s spot) isBound() bool {
	return slices.ContainsFunc(s.around, func(e api.Expr) bool { return quantifies(e) && e.Id == s.node.Id })
}
