package rule

import (
	"math/rand"
	"testing"

	"organon/api"
	"organon/expr"
	"organon/samples"
)

// plains fails unless Plain(e) is want, or nothing and the wanted error.
func plains(t *testing.T, e, want api.Expr, wanted api.Errno) {
	t.Helper()
	got, fault := Plain(e)
	outcome(t, "Plain("+text(e)+")", got, fault, want, wanted)
}

// P8.1: the rows of the chapter's examples, and the sixth example of the whole.
func TestPlainExamples(t *testing.T) {
	for s, want := range map[string]string{
		"(P0 & ?x0 P1(x0))": "!(P0 > !!@x0 !P1(x0))",
		"((P0 | P1) > P0)":  "((!P0 > P1) > P0)",
		"x0":                "x0",
		"(P0 & P1)":         "!(P0 > !P1)",
		"(P0 | P1)":         "(!P0 > P1)",
		"?x0 P0(x0)":        "!@x0 !P0(x0)",
	} {
		plains(t, read(t, s), read(t, want), api.OK)
	}
}

// P8.1: abbreviations at every nesting level, and formulas that look like what is unfolded.
func TestPlain(t *testing.T) {
	for s, want := range map[string]string{
		"((P0 & P1) & P2)":            "!(!(P0 > !P1) > !P2)",
		"(P0 & (P1 & P2))":            "!(P0 > !!(P1 > !P2))",
		"((P0 | P1) | P2)":            "(!(!P0 > P1) > P2)",
		"(P0 | (P1 | P2))":            "(!P0 > (!P1 > P2))",
		"((P0 & P1) | (P2 & P3))":     "(!!(P0 > !P1) > !(P2 > !P3))",
		"((P0 | P1) & (P2 | P3))":     "!((!P0 > P1) > !(!P2 > P3))",
		"?x0 ?x63 P0(x0, x63)":        "!@x0 !!@x63 !P0(x0, x63)",
		"?x1 (P0(x1) & P1)":           "!@x1 !!(P0(x1) > !P1)",
		"(?x1 P0(x1) | ?x1 P1(x1))":   "(!!@x1 !P0(x1) > !@x1 !P1(x1))",
		"!(P0 & P1)":                  "!!(P0 > !P1)",
		"!?x5 P0":                     "!!@x5 !P0",
		"@x0 ?x1 x0 = x1":             "@x0 !@x1 !x0 = x1",
		"@x0 (P0(x0) | P1)":           "@x0 (!P0(x0) > P1)",
		"(P0 > (P1 & P2))":            "(P0 > !(P1 > !P2))",
		"(!P0 | !P1)":                 "(!!P0 > !P1)",
		"(P0(f0(x1), x1) & f0 = x63)": "!(P0(f0(x1), x1) > !f0 = x63)",
		// Nothing to unfold.
		"!(P0 > !P1)":            "!(P0 > !P1)",
		"!@x0 !P0(x0)":           "!@x0 !P0(x0)",
		"!!P0":                   "!!P0",
		"P7":                     "P7",
		"f8(x0) = f9":            "f8(x0) = f9",
		"f9(f8(x1, x2, x3, x1))": "f9(f8(x1, x2, x3, x1))",
		"f10":                    "f10",
	} {
		plains(t, read(t, s), read(t, want), api.OK)
	}
}

// P8.1: each variable that a quantifier names.
func TestPlainOfEachVariable(t *testing.T) {
	for x := range api.MaxVar + 1 {
		atom := node(api.Atom, 0, samples.Variable(x))
		plains(t, node(api.All, x, atom), node(api.All, x, atom), api.OK)
		want := node(api.Not, 0, node(api.All, x, node(api.Not, 0, atom)))
		plains(t, node(api.Some, x, atom), want, api.OK)
	}
}

// limit is what becomes of a formula at the limits.
type limit struct {
	name string
	e    api.Expr
	want api.Errno
}

func limits() []limit {
	and := func(a, b api.Expr) api.Expr { return node(api.And, 0, a, b) }
	or := func(a, b api.Expr) api.Expr { return node(api.Or, 0, a, b) }
	some := func(a api.Expr) api.Expr { return node(api.Some, 0, a) }
	return []limit{
		{"1000 nodes, nothing to unfold", sized(1000), api.OK},
		{"1000 nodes by And", and(sized(400), sized(597)), api.OK},
		{"1001 nodes by And", and(sized(400), sized(598)), api.ErrMany},
		{"1000 nodes by Or", or(sized(500), sized(498)), api.OK},
		{"1001 nodes by Or", or(sized(500), sized(499)), api.ErrMany},
		{"1000 nodes by Some", some(sized(997)), api.OK},
		{"1001 nodes by Some", some(sized(998)), api.ErrMany},
		{"1000 nodes by And at the bottom", node(api.Imp, 0, sized(994), and(sized(1), sized(1))), api.OK},
		{"1001 nodes by And at the bottom", node(api.Imp, 0, and(sized(1), sized(1)), sized(995)), api.ErrMany},
		{"997 nodes by many And", joined(api.And, atoms(250)), api.OK},
		{"1001 nodes by many And", joined(api.And, atoms(251)), api.ErrMany},
		{"1000 nodes by many Or", joined(api.Or, atoms(334)), api.OK},
		{"1003 nodes by many Or", joined(api.Or, atoms(335)), api.ErrMany},
		{"1498 nodes by many And", joined(api.And, atoms(500)), api.ErrMany},
		{"depth 100, nothing to unfold", tall(100), api.OK},
		{"depth 100 by And, left", and(tall(98), tall(1)), api.OK},
		{"depth 101 by And, left", and(tall(99), tall(1)), api.ErrDeep},
		{"depth 100 by And, right", and(tall(1), tall(97)), api.OK},
		{"depth 101 by And, right", and(tall(1), tall(98)), api.ErrDeep},
		{"depth 100 by Or, left", or(tall(98), tall(1)), api.OK},
		{"depth 101 by Or, left", or(tall(99), tall(1)), api.ErrDeep},
		{"depth 100 by Or, right", or(tall(1), tall(99)), api.OK},
		{"depth 100 by Or, both", or(tall(98), tall(99)), api.OK},
		{"depth 100 by Some", some(tall(97)), api.OK},
		{"depth 101 by Some", some(tall(98)), api.ErrDeep},
		{"depth 100 by many Some", within(33, api.Some, 63, node(api.Atom, 0)), api.OK},
		{"depth 103 by many Some", within(34, api.Some, 63, node(api.Atom, 0)), api.ErrDeep},
		{"depth 298 by many Some", within(99, api.Some, 0, node(api.Atom, 0)), api.ErrDeep},
		{"depth 100 by Some at the bottom", within(96, api.Not, 0, some(node(api.Atom, 0))), api.OK},
		{"depth 101 by Some at the bottom", within(97, api.Not, 0, some(node(api.Atom, 0))), api.ErrDeep},
		{"depth 100 by terms", some(node(api.Atom, 0, within(95, api.App, 0, samples.Variable(0)))), api.OK},
		{"depth 101 by terms", some(node(api.Atom, 0, within(96, api.App, 0, samples.Variable(0)))), api.ErrDeep},
		{"1000 nodes, too deep", and(tall(99), sized(898)), api.ErrDeep},
		{"too many and too deep", and(tall(99), sized(899)), api.ErrMany},
		{"too many and too deep, on the right", and(sized(899), tall(99)), api.ErrMany},
	}
}

// P8.1, R2, R9: at the limits and beyond them.
func TestPlainLimits(t *testing.T) {
	for _, c := range limits() {
		want := byWords(c.e)
		if right, fault := expr.Right(c.e), expr.Right(want); right != api.OK || fault != c.want {
			t.Errorf("%s: %d, and the plain form has %d; want %d", c.name, right, fault, c.want)
		}
		got, fault := Plain(c.e)
		outcome(t, c.name, got, fault, want, c.want)
	}
}

// P8.1: as the words say it, for arbitrary expressions.
func TestPlainByWords(t *testing.T) {
	longer := 0
	for _, e := range append(valid(), samples.First(64)) {
		want := byWords(e)
		plains(t, e, want, expr.Right(want))
		if expr.Size(want) > expr.Size(e) {
			longer++
		}
	}
	r := rand.New(rand.NewSource(81))
	many := 0
	for range 300 {
		var list []api.Expr
		for range 20 + r.Intn(60) {
			list = append(list, samples.AnyFormula(r, 3))
		}
		e := joined([]int{api.And, api.Or, api.Imp}[r.Intn(3)], list)
		want := byWords(e)
		if expr.Right(e) == api.OK {
			plains(t, e, want, expr.Right(want))
			if expr.Right(want) != api.OK {
				many++
			}
		}
	}
	if longer < 500 || many < 30 || many > 200 {
		t.Errorf("%d of the samples are unfolded, and %d of the large ones have no plain form", longer, many)
	}
}

// P8.1, R1, R2, R8
func TestPlainWrong(t *testing.T) {
	eachWrong(func(e api.Expr, want api.Errno) {
		plains(t, e, api.Expr{}, want)
	})
	// Not valid comes ahead of a plain form that would be too large.
	deep := within(40, api.Some, 0, node(api.Atom, 100))
	plains(t, deep, api.Expr{}, api.ErrShape)
	plains(t, node(api.And, 0, sized(998), samples.Variable(0)), api.Expr{}, api.ErrShape)
	for _, e := range []api.Expr{node(api.And, 0), node(api.Or, 0, tall(1)), node(api.Some, 0), node(api.And, 1, tall(1), tall(1))} {
		plains(t, e, api.Expr{}, api.ErrShape)
	}
}
