package samples

import (
	"math"
	"slices"

	"organon/api"
)

// Fault is an expression that is not valid, and what expr.Right returns for it.
type Fault struct {
	Expr api.Expr
	Code api.Errno
}

// Outside returns numbers that no variable has.
func Outside() []int {
	return []int{-1, 64, 65, 99, 128, -63, -64, math.MinInt, math.MaxInt, 1 << 32, 1<<32 + 3}
}

// Looped returns an expression without an end: a quantifier that contains itself.
func Looped() api.Expr {
	e := Node(api.All, 0, Node(api.Atom, 0))
	e.Kids[0] = e
	return e
}

// Wrong returns expressions that are not valid.
func Wrong() []Fault {
	return slices.Concat(
		filed(api.ErrShape, misshapen()),
		filed(api.ErrMany, tooMany()),
		filed(api.ErrDeep, tooDeep()))
}

func filed(code api.Errno, list []api.Expr) []Fault {
	var faults []Fault
	for _, e := range list {
		faults = append(faults, Fault{e, code})
	}
	return faults
}

func misshapen() []api.Expr {
	x, p := Variable(0), Node(api.Atom, 0)
	return []api.Expr{
		{}, Node(11, 0), Node(-1, 0), Node(math.MaxInt, math.MinInt),
		Node(api.Var, 64), Node(api.Var, -1), Node(api.Var, 0, x), Node(api.App, 100), Node(api.App, 0, p),
		Node(api.Atom, 0, x, Node(api.Var, 64)), Node(api.Atom, 0, x, x, x, x, x), Node(api.Eq, 0, x),
		Node(api.Not, 0, x), Node(api.All, 64, p), Node(api.Some, -1, p), Node(api.All, 0), Node(api.Some, 0, x),
		Node(api.All, 0, p, p), Within(98, api.Not, 0, x),
	}
}

func tooMany() []api.Expr {
	x, p := Variable(0), Node(api.Atom, 0)
	return []api.Expr{
		Sized(1001), Within(1000, api.All, 0, p), Within(1<<16, api.App, 0, x), Doubled(40, p), Looped(),
		Node(api.Atom, 0, slices.Repeat([]api.Expr{x}, 1000)...),
	}
}

func tooDeep() []api.Expr {
	x, p := Variable(0), Node(api.Atom, 0)
	return []api.Expr{
		Within(100, api.Not, 0, p), Within(100, api.App, 0, x), Within(999, api.Some, 64, p), Within(100, api.All, 0, x),
	}
}
