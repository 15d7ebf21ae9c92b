package expr

import (
	"math"
	"math/rand"
	"reflect"
	"slices"
	"testing"

	"organon/api"
)

func node(kind, id int, kids ...api.Expr) api.Expr {
	return api.Expr{Kind: kind, Id: id, Kids: kids}
}

// The expressions of the chapter's examples.
func v() api.Expr { return node(api.Var, 3) }
func c() api.Expr { return node(api.App, 0) }
func p() api.Expr { return node(api.Atom, 2, v(), c()) }
func n() api.Expr { return node(api.Not, 0, p()) }
func q() api.Expr { return node(api.All, 3, n()) }

// sized returns a valid formula of low depth with so many nodes.
func sized(count int) api.Expr {
	switch count {
	case 1:
		return node(api.Atom, 0)
	case 2:
		return node(api.Not, 0, sized(1))
	}
	left := (count - 1) / 2
	return node(api.Imp, 0, sized(left), sized(count-1-left))
}

// sizedTerm returns a valid term of low depth with so many nodes.
func sizedTerm(count int) api.Expr {
	switch count {
	case 1:
		return node(api.App, 0)
	case 2:
		return node(api.App, 1, sizedTerm(1))
	}
	left := (count - 1) / 2
	return node(api.App, 2, sizedTerm(left), sizedTerm(count-1-left))
}

// nested returns e within so many negations.
func nested(times int, e api.Expr) api.Expr {
	for range times {
		e = node(api.Not, 0, e)
	}
	return e
}

// nestedTerm returns e within so many function symbols.
func nestedTerm(times int, e api.Expr) api.Expr {
	for range times {
		e = node(api.App, 7, e)
	}
	return e
}

// doubled returns 2^times copies of e in one tree, all of them in the same memory.
func doubled(times int, e api.Expr) api.Expr {
	for range times {
		e = node(api.Imp, 0, e, e)
	}
	return e
}

// looped returns an expression without an end: a negation that contains itself.
func looped() api.Expr {
	e := node(api.Not, 0, p())
	e.Kids[0] = e
	return e
}

// loopedLate contains itself behind parts that end, and some that share memory.
func loopedLate() api.Expr {
	e := node(api.And, 0, doubled(30, p()), doubled(25, q()), p())
	e.Kids[2] = e
	return e
}

// crowd returns a node with so many Kids.
func crowd(count int) api.Expr {
	return node(api.Atom, 0, slices.Repeat([]api.Expr{v()}, count)...)
}

// misshapen returns expressions for which Right returns ErrShape.
func misshapen() []api.Expr {
	return []api.Expr{
		{},
		node(11, 0),
		node(-1, 0),
		node(math.MaxInt, 0),
		node(math.MinInt, 0),
		node(1<<32+api.Var, 0),
		node(api.Var, 64),
		node(api.Var, -1),
		node(api.Var, 1<<32),
		node(api.Var, 3, c()),
		node(api.App, 100),
		node(api.App, 0, p()),
		node(api.App, 0, v(), v(), v(), v(), v()),
		node(api.Atom, -1),
		node(api.Atom, 2, v(), p()),
		node(api.Eq, 0, v()),
		node(api.Eq, 1, v(), v()),
		node(api.Eq, 0, p(), p()),
		node(api.Not, 0, v()),
		node(api.Not, 1, p()),
		node(api.Not, 0),
		node(api.Imp, 0, p()),
		node(api.Imp, 0, p(), p(), p()),
		node(api.All, 64, p()),
		node(api.Some, 0, c()),
		node(api.Not, 0, node(11, 0)),
		node(api.App, 1, node(0, 0)),
		node(api.Imp, 0, p(), node(api.Not, 0, node(api.Eq, 0, v(), node(api.App, 1, node(api.Var, 64))))),
		crowd(5),
		crowd(999),
	}
}

// tooMany returns expressions for which Right returns ErrMany; some are too deep or misshapen as well.
func tooMany() []api.Expr {
	return []api.Expr{
		sized(1001),
		sizedTerm(1001),
		sized(5000),
		nested(1000, p()),
		nested(1<<16, v()),
		crowd(1000),
		crowd(1 << 20),
		doubled(30, p()),
		doubled(62, node(0, -1)),
		doubled(300, p()),
		looped(),
		loopedLate(),
	}
}

// tooDeep returns expressions for which Right returns ErrDeep; some are misshapen as well.
func tooDeep() []api.Expr {
	return []api.Expr{
		nested(101, p()),
		nested(99, p()),
		nested(100, node(api.Atom, 0)),
		nestedTerm(100, v()),
		nested(100, node(0, 0)),
		nested(997, p()),
		node(api.Imp, 0, nested(99, v()), v()),
		node(api.Imp, 0, v(), nested(99, v())),
	}
}

// wrong returns expressions that are not valid, each with what Right returns for it.
func wrong() map[api.Errno][]api.Expr {
	return map[api.Errno][]api.Expr{api.ErrShape: misshapen(), api.ErrMany: tooMany(), api.ErrDeep: tooDeep()}
}

// valid returns valid expressions of all kinds, at the limits too.
func valid() []api.Expr {
	list := []api.Expr{
		v(), c(), p(), n(), q(),
		node(api.Var, 0), node(api.Var, 63),
		node(api.App, 99), node(api.App, 5, v(), c(), v(), c()),
		node(api.Atom, 99), node(api.Atom, 0, v(), v(), v(), v()),
		node(api.Eq, 0, v(), node(api.App, 1, c())),
		node(api.Imp, 0, p(), n()), node(api.And, 0, n(), p()), node(api.Or, 0, q(), q()),
		node(api.All, 63, p()), node(api.Some, 0, q()), node(api.Some, 63, p()),
		sized(1000), sizedTerm(1000), nested(98, p()), nested(99, node(api.Atom, 1)), nestedTerm(99, v()),
		doubled(7, p()),
		{Kind: api.App, Id: 3, Kids: []api.Expr{}},
	}
	r := rand.New(rand.NewSource(1))
	for range 200 {
		list = append(list, randomFormula(r, 5), randomTerm(r, 4))
	}
	return list
}

func randomTerm(r *rand.Rand, depth int) api.Expr {
	if depth == 1 || r.Intn(3) == 0 {
		return node(api.Var, r.Intn(3))
	}
	e := node(api.App, r.Intn(3))
	for range r.Intn(api.MaxArgs + 1) {
		e.Kids = append(e.Kids, randomTerm(r, depth-1))
	}
	return e
}

func randomFormula(r *rand.Rand, depth int) api.Expr {
	kind := api.Atom + r.Intn(api.Some-api.Atom+1)
	if depth == 1 {
		kind = api.Atom
	}
	switch kind {
	case api.Atom:
		e := node(kind, r.Intn(3))
		for range r.Intn(api.MaxArgs + 1) {
			e.Kids = append(e.Kids, randomTerm(r, 2))
		}
		return e
	case api.Eq:
		return node(kind, 0, randomTerm(r, 2), randomTerm(r, 2))
	case api.Not:
		return node(kind, 0, randomFormula(r, depth-1))
	case api.All, api.Some:
		return node(kind, r.Intn(3), randomFormula(r, depth-1))
	}
	return node(kind, 0, randomFormula(r, depth-1), randomFormula(r, depth-1))
}

// count and level are what Size and Depth would be without their limits.
func count(e api.Expr) int {
	sum := 1
	for _, kid := range e.Kids {
		sum += count(kid)
	}
	return sum
}

func level(e api.Expr) int {
	most := 0
	for _, kid := range e.Kids {
		most = max(most, level(kid))
	}
	return most + 1
}

// copyOf returns e as it is now, in other memory, with nil for a list without elements.
func copyOf(e api.Expr) api.Expr {
	var kids []api.Expr
	for _, kid := range e.Kids {
		kids = append(kids, copyOf(kid))
	}
	return api.Expr{Kind: e.Kind, Id: e.Id, Kids: kids}
}

func equal(a, b api.Expr) bool {
	return reflect.DeepEqual(copyOf(a), copyOf(b))
}

// claim notes the memory of all lists in e, with their spare capacity, and fails if some of it is noted already.
func claim(t *testing.T, noted map[*api.Expr]bool, e api.Expr) {
	t.Helper()
	whole := e.Kids[:cap(e.Kids)]
	for i := range whole {
		if noted[&whole[i]] {
			t.Fatal("memory is shared")
		}
		noted[&whole[i]] = true
	}
	for _, kid := range e.Kids {
		claim(t, noted, kid)
	}
}

// note notes the memory of all lists in e, which may share it.
func note(noted map[*api.Expr]bool, e api.Expr) {
	whole := e.Kids[:cap(e.Kids)]
	for i := range whole {
		noted[&whole[i]] = true
	}
	for _, kid := range e.Kids {
		note(noted, kid)
	}
}

// roomy returns e with spare capacity behind each list of Kids, in which something is written.
func roomy(e api.Expr) api.Expr {
	kids := make([]api.Expr, len(e.Kids), len(e.Kids)+2)
	for i, kid := range e.Kids {
		kids[i] = roomy(kid)
	}
	spare := kids[:cap(kids)]
	spare[len(kids)], spare[len(kids)+1] = node(77, 77), node(88, 88)
	return api.Expr{Kind: e.Kind, Id: e.Id, Kids: kids}
}

// untouched fails unless e, which roomy made, still has what it wrote behind each list.
func untouched(t *testing.T, e api.Expr) {
	t.Helper()
	spare := e.Kids[len(e.Kids):cap(e.Kids)]
	if len(spare) != 2 || spare[0].Kind != 77 || spare[1].Kind != 88 {
		t.Fatal("spare capacity is changed")
	}
	for _, kid := range e.Kids {
		untouched(t, kid)
	}
}

func isZero(e api.Expr) bool {
	return e.Kind == 0 && e.Id == 0 && len(e.Kids) == 0
}
