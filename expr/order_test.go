package expr

import (
	"math/rand"
	"slices"
	"testing"

	"organon/api"
)

// P2.4: the row of the examples.
func TestCompareExamples(t *testing.T) {
	for _, c := range []struct {
		a, b api.Expr
		want int
	}{
		{v(), c(), -1},
		{p(), n(), -1},
		{node(api.Var, 3), node(api.Var, 2), 1},
		{q(), q(), 0},
	} {
		if got, e := Compare(c.a, c.b); got != c.want || e != api.OK {
			t.Errorf("Compare(%v, %v) = %d, %d; want %d", c.a, c.b, got, e, c.want)
		}
	}
}

// inOrder returns expressions in increasing order: by Kind, then Id, then number of Kids, then the first Kids that differ.
func inOrder() []api.Expr {
	x0, x1, f0, f1 := node(api.Var, 0), node(api.Var, 1), node(api.App, 0), node(api.App, 1)
	p0, p1 := node(api.Atom, 0), node(api.Atom, 1)
	return []api.Expr{
		x0, x1, node(api.Var, 63),
		f0, node(api.App, 0, x0), node(api.App, 0, x1), node(api.App, 0, f0), node(api.App, 0, f1),
		node(api.App, 0, node(api.App, 1, f1)), node(api.App, 0, x0, x0), node(api.App, 0, x0, f1), node(api.App, 0, x1, x0),
		node(api.App, 0, x0, x0, x0, x0),
		f1, node(api.App, 1, x0, x0, x0), node(api.App, 1, x0, x0, x1), node(api.App, 1, x0, x1, x0), node(api.App, 2), node(api.App, 10),
		p0, node(api.Atom, 0, f1), p1, node(api.Atom, 99),
		node(api.Eq, 0, x0, f1), node(api.Eq, 0, x1, x0),
		node(api.Not, 0, p0), node(api.Not, 0, p1), node(api.Not, 0, node(api.Not, 0, p0)),
		node(api.Imp, 0, p0, p1), node(api.Imp, 0, p0, node(api.Not, 0, p0)), node(api.Imp, 0, p1, p0),
		node(api.All, 0, p1), node(api.All, 1, p0), node(api.All, 63, p0),
		node(api.And, 0, p0, p0), node(api.Or, 0, p0, p0), node(api.Some, 0, p1), node(api.Some, 1, p0),
	}
}

// P2.4
func TestOrder(t *testing.T) {
	list := inOrder()
	for i, a := range list {
		for j, b := range list {
			want := 0
			switch {
			case i < j:
				want = -1
			case i > j:
				want = 1
			}
			if got, e := Compare(a, copyOf(b)); got != want || e != api.OK {
				t.Errorf("Compare(%v, %v) = %d, %d; want %d", a, b, got, e, want)
			}
			if got := Same(a, copyOf(b)); got != (i == j) {
				t.Errorf("Same(%v, %v) = %v", a, b, got)
			}
		}
	}
}

// P2.4, R5: a list without elements is nil or empty.
func TestOrderOfEmptyLists(t *testing.T) {
	a, b := api.Expr{Kind: api.App}, api.Expr{Kind: api.App, Kids: []api.Expr{}}
	if got, e := Compare(a, b); got != 0 || e != api.OK || !Same(a, b) || !Same(b, a) {
		t.Errorf("%d, %d", got, e)
	}
}

// P2.4, R2, R3, R8: the first argument that is not valid decides.
func TestOrderOfWrong(t *testing.T) {
	all := wrong()
	faults := []api.Errno{api.ErrShape, api.ErrMany, api.ErrDeep}
	for _, fault := range faults {
		for i, e := range all[fault] {
			if got, f := Compare(e, v()); got != 0 || f != fault {
				t.Errorf("%d first, %d: %d, %d", fault, i, got, f)
			}
			if got, f := Compare(v(), e); got != 0 || f != fault {
				t.Errorf("%d second, %d: %d, %d", fault, i, got, f)
			}
			if Same(e, e) || Same(e, v()) || Same(v(), e) {
				t.Errorf("Same, %d, %d", fault, i)
			}
		}
		for _, other := range faults {
			if got, f := Compare(all[fault][0], all[other][0]); got != 0 || f != fault {
				t.Errorf("%d and %d: %d, %d", fault, other, got, f)
			}
		}
	}
}

// flat returns the numbers by which expressions are ordered: their heads, one after the other.
func flat(e api.Expr) []int {
	l := []int{e.Kind, e.Id, len(e.Kids)}
	for _, kid := range e.Kids {
		l = append(l, flat(kid)...)
	}
	return l
}

// P2.4, P2.9: Compare is a total order.
func TestTotalOrder(t *testing.T) {
	r := rand.New(rand.NewSource(3))
	var list []api.Expr
	for range 120 {
		list = append(list, randomFormula(r, 3), randomTerm(r, 3))
	}
	for _, a := range list {
		for _, b := range list {
			got, e := Compare(a, b)
			back, _ := Compare(b, a)
			if e != api.OK || got != slices.Compare(flat(a), flat(b)) || back != -got || Same(a, b) != (got == 0) || Same(a, b) != equal(a, b) {
				t.Fatalf("%v and %v: %d, %d", a, b, got, back)
			}
		}
	}
	slices.SortFunc(list, func(a, b api.Expr) int {
		got, _ := Compare(a, b)
		return got
	})
	for i := range list {
		for j := i; j < len(list); j++ {
			if got, _ := Compare(list[i], list[j]); got > 0 {
				t.Fatalf("%v and %v are not in order", list[i], list[j])
			}
		}
	}
}

// P2.4: expressions at the limits that differ in their last node alone.
func TestOrderAtLimits(t *testing.T) {
	for _, c := range [][2]api.Expr{
		{nested(99, node(api.Atom, 0)), nested(99, node(api.Atom, 1))},
		{node(api.Imp, 0, sized(998), node(api.Atom, 0)), node(api.Imp, 0, sized(998), node(api.Atom, 1))},
	} {
		got, e := Compare(c[0], c[1])
		back, _ := Compare(c[1], c[0])
		if got != -1 || back != 1 || e != api.OK || Same(c[0], c[1]) || !Same(c[0], copyOf(c[0])) {
			t.Errorf("%d, %d, %d", got, back, e)
		}
	}
}
