package rule

import (
	"testing"

	"organon/api"
	"organon/expr"
	"organon/samples"
)

// gens fails unless Gen(a, x) is want, or nothing and the wanted error.
func gens(t *testing.T, a api.Expr, x int, want api.Expr, wanted api.Errno) {
	t.Helper()
	got, fault := Gen(a, x)
	outcome(t, "Gen("+text(a)+", "+text(samples.Variable(x))+")", got, fault, want, wanted)
}

// P8.4: the row of the examples.
func TestGenExamples(t *testing.T) {
	gens(t, read(t, "P0(x1)"), 1, read(t, "@x1 P0(x1)"), api.OK)
	gens(t, read(t, "P0"), 64, api.Expr{}, api.ErrArg)
}

// P8.4: formulas of each kind and each variable, free in them or not; nothing is unfolded.
func TestGen(t *testing.T) {
	gens(t, read(t, "@x1 P0(x1)"), 1, read(t, "@x1 @x1 P0(x1)"), api.OK)
	gens(t, read(t, "?x0 (P0 & P1)"), 63, read(t, "@x63 ?x0 (P0 & P1)"), api.OK)
	for _, s := range formulas() {
		a := read(t, s)
		for x := range api.MaxVar + 1 {
			gens(t, a, x, node(api.All, x, a), api.OK)
		}
	}
	for _, a := range valid() {
		if want := node(api.All, 62, a); expr.IsFormula(a) {
			gens(t, a, 62, want, expr.Right(want))
		}
	}
}

// P8.4, R2, R9: at the limits and beyond them.
func TestGenLimits(t *testing.T) {
	for _, c := range []struct {
		name string
		a    api.Expr
		want api.Errno
	}{
		{"1000 nodes", sized(999), api.OK},
		{"1001 nodes", sized(1000), api.ErrMany},
		{"depth 100", tall(99), api.OK},
		{"depth 101", tall(100), api.ErrDeep},
		{"depth 101 by terms", node(api.Atom, 0, within(98, api.App, 0, node(api.App, 0))), api.ErrDeep},
		{"depth 101, 1000 nodes", node(api.Imp, 0, tall(99), sized(899)), api.ErrDeep},
		{"depth 101, 1001 nodes", node(api.Imp, 0, tall(99), sized(900)), api.ErrMany},
		{"no plain form", node(api.And, 0, sized(499), sized(499)), api.OK},
		{"no plain form", within(98, api.Some, 0, node(api.Atom, 0)), api.OK},
	} {
		want := node(api.All, 5, c.a)
		if right, fault := expr.Right(c.a), expr.Right(want); right != api.OK || fault != c.want {
			t.Errorf("%s: %d, and the result has %d; want %d", c.name, right, fault, c.want)
		}
		gens(t, c.a, 5, want, c.want)
	}
}

// P8.4, R2, R3, R8: first the number, then what is wrong with a, then its sort.
func TestGenWrong(t *testing.T) {
	for _, x := range samples.Outside() {
		for _, a := range []api.Expr{read(t, "P0(x1)"), read(t, "x0"), sized(1000), tall(100)} {
			gens(t, a, x, api.Expr{}, api.ErrArg)
		}
		eachWrong(func(e api.Expr, _ api.Errno) {
			gens(t, e, x, api.Expr{}, api.ErrArg)
		})
	}
	for _, x := range []int{0, 63} {
		eachWrong(func(e api.Expr, want api.Errno) {
			gens(t, e, x, api.Expr{}, want)
		})
		for _, s := range terms() {
			gens(t, read(t, s), x, api.Expr{}, api.ErrSort)
		}
		gens(t, samples.SizedTerm(1000), x, api.Expr{}, api.ErrSort)
		gens(t, within(99, api.App, 0, samples.Variable(0)), x, api.Expr{}, api.ErrSort)
	}
}
