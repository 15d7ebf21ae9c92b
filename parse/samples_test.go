package parse

import (
	"math"
	"math/rand"
	"reflect"
	"strings"
	"testing"

	"organon/api"
)

func node(kind, id int, kids ...api.Expr) api.Expr {
	return api.Expr{Kind: kind, Id: id, Kids: kids}
}

func v(id int) api.Expr { return node(api.Var, id) }
func c() api.Expr       { return node(api.App, 0) }
func p() api.Expr       { return node(api.Atom, 0) }

// third is the formula of the examples' third row.
func third() api.Expr {
	return node(api.All, 0, node(api.Imp, 0,
		node(api.Atom, 0, v(0)),
		node(api.Not, 0, node(api.Eq, 0, v(0), node(api.App, 1, v(0), c())))))
}

const thirdText = "@x0 (P0(x0) > !x0 = f1(x0, f0))"

// sized returns a valid formula of low depth with so many nodes.
func sized(count int) api.Expr {
	switch count {
	case 1:
		return p()
	case 2:
		return node(api.Not, 0, p())
	}
	left := (count - 1) / 2
	return node(api.Imp, 0, sized(left), sized(count-1-left))
}

// sizedTerm returns a valid term of low depth with so many nodes.
func sizedTerm(count int) api.Expr {
	switch count {
	case 1:
		return v(63)
	case 2:
		return node(api.App, 99, v(63))
	}
	left := (count - 1) / 2
	return node(api.App, 99, sizedTerm(left), sizedTerm(count-1-left))
}

// nested returns e within so many negations.
func nested(times int, e api.Expr) api.Expr {
	for range times {
		e = node(api.Not, 0, e)
	}
	return e
}

// nestedTerm returns e within so many function symbols.
func nestedTerm(times int, e api.Expr) api.Expr {
	for range times {
		e = node(api.App, 7, e)
	}
	return e
}

// doubled returns 2^times copies of e in one tree, all of them in the same memory.
func doubled(times int, e api.Expr) api.Expr {
	for range times {
		e = node(api.And, 0, e, e)
	}
	return e
}

// looped returns an expression without an end: a negation that contains itself.
func looped() api.Expr {
	e := node(api.Not, 0, p())
	e.Kids[0] = e
	return e
}

// wrong returns expressions that are not valid, each with what expr.Right returns for it.
func wrong() map[api.Errno][]api.Expr {
	return map[api.Errno][]api.Expr{
		api.ErrShape: {
			{}, node(11, 0), node(-1, 0), node(math.MaxInt, 0), node(math.MinInt, 0),
			v(64), v(-1), node(api.Var, 0, v(0)),
			node(api.App, 100), node(api.Atom, -1), node(api.App, 0, p()), node(api.Atom, 0, v(0), p()),
			node(api.Atom, 0, v(0), v(0), v(0), v(0), v(0)),
			node(api.Eq, 0), node(api.Eq, 0, v(0)), node(api.Eq, 1, v(0), v(0)), node(api.Eq, 0, p(), p()),
			node(api.Not, 0), node(api.Not, 1, p()), node(api.Not, 0, v(0)), node(api.Not, 0, p(), p()),
			node(api.Imp, 0, p()), node(api.And, 0), node(api.Or, 0, p(), p(), p()),
			node(api.All, 64, p()), node(api.Some, 0), node(api.Some, 0, c()),
			nested(98, v(0)),
		},
		api.ErrMany: {
			sized(1001), sizedTerm(1001), nested(1000, p()), nested(1<<16, v(0)), doubled(40, p()), looped(),
		},
		api.ErrDeep: {
			nested(100, p()), nestedTerm(100, c()), nested(999, p()), nested(100, v(0)), node(api.Not, 1, nested(99, p())),
		},
	}
}

// valid returns valid expressions of all kinds, at the limits too.
func valid() []api.Expr {
	list := []api.Expr{
		third(), v(0), v(9), v(10), v(63), c(), node(api.App, 99), p(), node(api.Atom, 99),
		node(api.App, 5, v(1), c(), v(2), c()), node(api.Atom, 10, v(1), c(), v(2), c()),
		node(api.Eq, 0, v(0), node(api.App, 1, c())), node(api.Eq, 0, node(api.App, 1, c()), v(0)),
		node(api.Imp, 0, p(), third()), node(api.And, 0, third(), p()), node(api.Or, 0, p(), p()),
		node(api.All, 63, p()), node(api.Some, 0, third()), node(api.Some, 63, node(api.Eq, 0, v(1), v(2))),
		sized(1000), sizedTerm(1000), nested(99, p()), nestedTerm(99, v(0)), doubled(8, p()),
		{Kind: api.App, Id: 3, Kids: []api.Expr{}},
	}
	r := rand.New(rand.NewSource(1))
	for range 300 {
		list = append(list, randomFormula(r, 5), randomTerm(r, 4))
	}
	return list
}

func randomTerm(r *rand.Rand, depth int) api.Expr {
	if depth == 1 || r.Intn(3) == 0 {
		return v(r.Intn(api.MaxVar + 1))
	}
	e := node(api.App, r.Intn(api.MaxId+1))
	for range r.Intn(api.MaxArgs + 1) {
		e.Kids = append(e.Kids, randomTerm(r, depth-1))
	}
	return e
}

func randomFormula(r *rand.Rand, depth int) api.Expr {
	kind := api.Atom + r.Intn(api.Some-api.Atom+1)
	if depth == 1 {
		kind = api.Atom
	}
	switch kind {
	case api.Atom:
		e := node(kind, r.Intn(api.MaxId+1))
		for range r.Intn(api.MaxArgs + 1) {
			e.Kids = append(e.Kids, randomTerm(r, 3))
		}
		return e
	case api.Eq:
		return node(kind, 0, randomTerm(r, 3), randomTerm(r, 3))
	case api.Not:
		return node(kind, 0, randomFormula(r, depth-1))
	case api.All, api.Some:
		return node(kind, r.Intn(api.MaxVar+1), randomFormula(r, depth-1))
	}
	return node(kind, 0, randomFormula(r, depth-1), randomFormula(r, depth-1))
}

// reads returns Term for a term and Formula for a formula.
func reads(e api.Expr) func(string) (api.Expr, api.Errno, int) {
	if e.Kind <= api.App {
		return Term
	}
	return Formula
}

// copyOf returns e as it is now, in other memory, with nil for a list without elements.
func copyOf(e api.Expr) api.Expr {
	var kids []api.Expr
	for _, kid := range e.Kids {
		kids = append(kids, copyOf(kid))
	}
	return api.Expr{Kind: e.Kind, Id: e.Id, Kids: kids}
}

func equal(a, b api.Expr) bool {
	return reflect.DeepEqual(copyOf(a), copyOf(b))
}

func isZero(e api.Expr) bool {
	return e.Kind == 0 && e.Id == 0 && len(e.Kids) == 0
}

// claim notes the memory of all lists in e, with their spare capacity, and fails if some of it is noted already.
func claim(t *testing.T, noted map[*api.Expr]bool, e api.Expr) {
	t.Helper()
	whole := e.Kids[:cap(e.Kids)]
	for i := range whole {
		if noted[&whole[i]] {
			t.Fatal("memory is shared")
		}
		noted[&whole[i]] = true
	}
	for _, kid := range e.Kids {
		claim(t, noted, kid)
	}
}

// short returns a text that can be shown whole.
func short(s string) string {
	if len(s) > 60 {
		return s[:60] + ".."
	}
	return s
}

// around returns a text with so many copies of what stands before and behind it.
func around(times int, before, s, behind string) string {
	return strings.Repeat(before, times) + s + strings.Repeat(behind, times)
}
