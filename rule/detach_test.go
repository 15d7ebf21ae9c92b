package rule

import (
	"math/rand"
	"testing"

	"organon/api"
	"organon/expr"
	"organon/samples"
)

// detaches fails unless Detach(a, b) is want, or nothing and the wanted error.
func detaches(t *testing.T, a, b, want api.Expr, wanted api.Errno) {
	t.Helper()
	got, fault := Detach(a, b)
	outcome(t, "Detach("+text(a)+", "+text(b)+")", got, fault, want, wanted)
}

// P8.3: the row of the examples.
func TestDetachExamples(t *testing.T) {
	p := read(t, "P0")
	detaches(t, p, read(t, "(P0 > P1)"), read(t, "P1"), api.OK)
	detaches(t, p, read(t, "(!P0 | P1)"), api.Expr{}, api.ErrDetach)
	detaches(t, read(t, "x0"), p, api.Expr{}, api.ErrSort)
}

// P8.3: formulas of each kind; the second Kid is returned as it is.
func TestDetach(t *testing.T) {
	list := formulas()
	for i, s := range list {
		for j, other := range list {
			a, b := read(t, s), read(t, other)
			implication := node(api.Imp, 0, a, b)
			detaches(t, a, implication, b, api.OK)
			if i != j {
				detaches(t, b, implication, api.Expr{}, api.ErrDetach)
			}
			detaches(t, implication, implication, api.Expr{}, api.ErrDetach)
			detaches(t, implication, a, api.Expr{}, api.ErrDetach)
			for _, kind := range []int{api.And, api.Or} {
				detaches(t, a, node(kind, 0, a, b), api.Expr{}, api.ErrDetach)
			}
			for _, kind := range []int{api.Not, api.All, api.Some} {
				detaches(t, a, node(kind, 0, implication), api.Expr{}, api.ErrDetach)
			}
		}
	}
}

// P8.3: the formulas are compared as they are.
func TestDetachUnfoldsNothing(t *testing.T) {
	for _, c := range []struct {
		a, b, want string
	}{
		{"(P0 | P1)", "((P0 | P1) > (P2 & P3))", "(P2 & P3)"},
		{"(P0 > P1)", "((P0 > P1) > (P1 > P0))", "(P1 > P0)"},
		{"P0", "(P0 > (P0 > P0))", "(P0 > P0)"},
		{"(P0 | P1)", "((!P0 > P1) > P2)", ""},
		{"(!P0 > P1)", "((P0 | P1) > P2)", ""},
		{"(P0 & P1)", "(!(P0 > !P1) > P2)", ""},
		{"?x0 P0(x0)", "(!@x0 !P0(x0) > P2)", ""},
		// The first part of (!P0 > P1), as which the disjunction would be unfolded.
		{"!P0", "(P0 | P1)", ""},
		{"@x0 P0(x0)", "(@x1 P0(x1) > P2)", ""},
		{"P0(x0)", "(P0(x1) > P2)", ""},
		{"P0", "(P0(x0) > P2)", ""},
		{"P1", "(P0 > P1)", ""},
		{"P0", "P0", ""},
		{"P0", "!P0", ""},
		{"P0", "P0(f0)", ""},
		{"P0", "x0 = x0", ""},
	} {
		if c.want == "" {
			detaches(t, read(t, c.a), read(t, c.b), api.Expr{}, api.ErrDetach)
		} else {
			detaches(t, read(t, c.a), read(t, c.b), read(t, c.want), api.OK)
		}
	}
}

// P8.3, R5: nil and an empty list are equal.
func TestDetachEmptyLists(t *testing.T) {
	empty := api.Expr{Kind: api.Atom, Kids: []api.Expr{}}
	detaches(t, empty, read(t, "(P0 > P1)"), read(t, "P1"), api.OK)
	detaches(t, read(t, "P0"), node(api.Imp, 0, empty, empty), empty, api.OK)
}

// P8.3: at the limits; a formula may have no plain form.
func TestDetachAtLimits(t *testing.T) {
	deep := within(98, api.Some, 0, node(api.Atom, 0))
	many := node(api.And, 0, sized(300), sized(200))
	for _, c := range [][2]api.Expr{{sized(998), sized(1)}, {sized(1), sized(998)}, {tall(99), tall(99)}, {deep, deep}, {many, many.Kids[0]}} {
		implication := node(api.Imp, 0, c[0], c[1])
		if fault := expr.Right(implication); fault != api.OK {
			t.Errorf("%s: %d", text(implication), fault)
		}
		detaches(t, c[0], implication, c[1], api.OK)
	}
	detaches(t, sized(1000), sized(1000), api.Expr{}, api.ErrDetach)
	detaches(t, tall(100), tall(100), api.Expr{}, api.ErrDetach)
}

// P8.3: arbitrary formulas, one of which is often nearly the first Kid of the other one.
func TestDetachArbitrary(t *testing.T) {
	r := rand.New(rand.NewSource(83))
	yes := 0
	for range 4000 {
		first, second := samples.AnyFormula(r, 1+r.Intn(4)), samples.AnyFormula(r, 1+r.Intn(4))
		a := first
		if r.Intn(2) == 0 {
			a = altered(r, someUnfolded(r, first))
		}
		kind := []int{api.Imp, api.Imp, api.Imp, api.Or, api.And}[r.Intn(5)]
		if kind == api.Imp && expr.Same(a, first) {
			detaches(t, a, node(kind, 0, first, second), second, api.OK)
			yes++
		} else {
			detaches(t, a, node(kind, 0, first, second), api.Expr{}, api.ErrDetach)
		}
	}
	if yes < 1000 || yes > 3000 {
		t.Errorf("something is detached from %d of the samples", yes)
	}
}

// P8.3, R2, R3, R8: the first argument that is not valid, then the sorts.
func TestDetachWrong(t *testing.T) {
	p, implication := read(t, "P0"), read(t, "(P0 > P1)")
	eachWrong(func(e api.Expr, want api.Errno) {
		detaches(t, e, implication, api.Expr{}, want)
		detaches(t, p, e, api.Expr{}, want)
		detaches(t, read(t, "x0"), e, api.Expr{}, want)
		detaches(t, e, read(t, "x0"), api.Expr{}, want)
		eachWrong(func(other api.Expr, _ api.Errno) {
			detaches(t, e, other, api.Expr{}, want)
		})
	})
	for _, s := range terms() {
		detaches(t, read(t, s), implication, api.Expr{}, api.ErrSort)
		detaches(t, p, read(t, s), api.Expr{}, api.ErrSort)
		detaches(t, read(t, s), read(t, s), api.Expr{}, api.ErrSort)
		for _, formula := range formulas() {
			detaches(t, read(t, s), read(t, formula), api.Expr{}, api.ErrSort)
			detaches(t, read(t, formula), read(t, s), api.Expr{}, api.ErrSort)
		}
	}
}
