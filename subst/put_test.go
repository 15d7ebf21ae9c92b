package subst

import (
	"math/rand"
	"strconv"
	"testing"

	"organon/api"
	"organon/expr"
	"organon/free"
	"organon/samples"
)

// puts fails unless Put returns want, or the wanted error.
func puts(t *testing.T, a api.Expr, x int, term, want api.Expr, wanted api.Errno) {
	t.Helper()
	got, fault := Put(a, x, term)
	outcome(t, "Put("+text(a)+", "+strconv.Itoa(x)+", "+text(term)+")", got, fault, want, wanted)
}

// P5.1: the rows of the examples.
func TestPutExamples(t *testing.T) {
	a := read(t, "@x1 P0(x0, x1)")
	puts(t, a, 0, read(t, "f0"), read(t, "@x1 P0(f0, x1)"), api.OK)
	puts(t, a, 0, read(t, "x1"), api.Expr{}, api.ErrCapture)
	puts(t, read(t, "@x0 P0(x0)"), 0, read(t, "x1"), read(t, "@x0 P0(x0)"), api.OK)
}

// P5.1
func TestPut(t *testing.T) {
	for _, c := range []struct {
		a    string
		x    int
		term string
		want string
	}{
		// Terms.
		{"x0", 0, "x1", "x1"},
		{"x0", 0, "f0(x0, x1)", "f0(x0, x1)"},
		{"x1", 0, "f0", "x1"},
		{"x63", 63, "x0", "x0"},
		{"f0", 0, "x1", "f0"},
		{"f0(x0, f1(x0, x2), x0)", 0, "f2(x3)", "f0(f2(x3), f1(f2(x3), x2), f2(x3))"},
		// Every kind of formula.
		{"P0(x0, x1, x0)", 0, "f0", "P0(f0, x1, f0)"},
		{"x0 = f1(x0)", 0, "x2", "x2 = f1(x2)"},
		{"!P0(x0)", 0, "x2", "!P0(x2)"},
		{"(P0(x0) > P1(x0))", 0, "x2", "(P0(x2) > P1(x2))"},
		{"(P0(x0) & P1(x0))", 0, "x2", "(P0(x2) & P1(x2))"},
		{"(P0(x0) | P1(x0))", 0, "x2", "(P0(x2) | P1(x2))"},
		{"@x1 P0(x0)", 0, "x2", "@x1 P0(x2)"},
		{"?x1 P0(x0)", 0, "x2", "?x1 P0(x2)"},
		{"P0", 0, "x2", "P0"},
		// The number of a symbol is not that of a variable.
		{"P5(f5(x5))", 5, "x6", "P5(f5(x6))"},
		// Bound occurrences stay, beside free ones, inside and outside.
		{"(@x0 P0(x0) > P0(x0))", 0, "f0", "(@x0 P0(x0) > P0(f0))"},
		{"(P0(x0) > ?x0 P0(x0))", 0, "f0", "(P0(f0) > ?x0 P0(x0))"},
		{"@x1 (P0(x0) & @x0 P0(x0, x1))", 0, "f0", "@x1 (P0(f0) & @x0 P0(x0, x1))"},
		{"@x0 @x1 P0(x0)", 0, "x2", "@x0 @x1 P0(x0)"},
		{"@x0 @x1 P0(x0)", 0, "x1", "@x0 @x1 P0(x0)"},
		{"@x1 @x0 P0(x0)", 0, "x1", "@x1 @x0 P0(x0)"},
		// What is inserted is not processed again.
		{"P0(x0)", 0, "f0(x0)", "P0(f0(x0))"},
		{"@x1 P0(x0)", 0, "f0(x0, x0)", "@x1 P0(f0(x0, x0))"},
		// The quantifier of a variable of the term is no matter where x is not free inside it.
		{"(@x1 P0(x1) > P0(x0))", 0, "x1", "(@x1 P0(x1) > P0(x1))"},
		{"(P0(x0) > @x1 @x0 P0(x0, x1))", 0, "x1", "(P0(x1) > @x1 @x0 P0(x0, x1))"},
		// Nor is the name of a quantifier that is x.
		{"@x0 P0(x1)", 0, "f0", "@x0 P0(x1)"},
		{"@x0 P0(x1)", 1, "x2", "@x0 P0(x2)"},
	} {
		puts(t, read(t, c.a), c.x, read(t, c.term), read(t, c.want), api.OK)
	}
}

// P5.1: a variable of the term would be captured.
func TestPutCapture(t *testing.T) {
	for _, c := range []struct {
		a    string
		x    int
		term string
	}{
		{"@x1 P0(x0)", 0, "x1"},
		{"?x1 P0(x0)", 0, "x1"},
		{"@x1 P0(x0)", 0, "f0(f1, f2(x0, x1))"},
		{"(P0(x0) > !?x63 P0(x62))", 62, "x63"},
		{"@x1 (@x0 P0(x0) > P0(x0))", 0, "x1"},
		{"@x1 @x2 P0(x0)", 0, "x1"},
		{"@x1 @x2 P0(x0)", 0, "x2"},
	} {
		puts(t, read(t, c.a), c.x, read(t, c.term), api.Expr{}, api.ErrCapture)
	}
}

// limit is a substitution for x7 whose result is as large as may be, or larger.
type limit struct {
	name    string
	a, term api.Expr
	want    api.Errno
}

func limits() []limit {
	x, p := node(api.Var, 7), node(api.Atom, 0, node(api.Var, 7))
	joined := func(a, b api.Expr) api.Expr { return node(api.Imp, 0, a, b) }
	wide, deep := samples.SizedTerm, func(depth int) api.Expr { return within(depth-1, api.App, 0, node(api.App, 0)) }
	return []limit{
		{"1000 nodes stay 1000", joined(sized(997), p), wide(1), api.OK},
		{"999 nodes become 1000", joined(sized(996), p), wide(2), api.OK},
		{"1000 nodes become 1001", joined(sized(997), p), wide(2), api.ErrMany},
		{"1000 nodes by two terms", joined(sized(796), joined(p, p)), wide(100), api.OK},
		{"1001 nodes by two terms", joined(sized(797), joined(p, p)), wide(100), api.ErrMany},
		{"1000 nodes, the term first", joined(p, sized(798)), wide(200), api.OK},
		{"1001 nodes, the term first", joined(p, sized(799)), wide(200), api.ErrMany},
		{"a term of 1000 nodes", x, wide(1000), api.OK},
		{"a term of 1000 nodes, and one more", node(api.App, 0, x), wide(1000), api.ErrMany},
		{"a term of 1000 nodes for nothing", sized(1000), wide(1000), api.OK},
		{"a term of 1000 nodes for bound ones", node(api.All, 7, p), wide(1000), api.OK},
		{"depth 100 stays 100", within(98, api.Not, 0, p), deep(1), api.OK},
		{"depth 100 by a term", within(48, api.Not, 0, p), deep(51), api.OK},
		{"depth 101 by a term", within(49, api.Not, 0, p), deep(51), api.ErrDeep},
		{"depth 101 by one more node", within(98, api.Not, 0, p), deep(2), api.ErrDeep},
		{"a term of depth 100", x, deep(100), api.OK},
		{"a term of depth 100, and one more", node(api.App, 0, x), deep(100), api.ErrDeep},
		{"a term of depth 100 for nothing", node(api.Atom, 0), deep(100), api.OK},
		{"depth 100 where it was not deepest", joined(p, within(60, api.Not, 0, node(api.Atom, 0))), deep(98), api.OK},
		{"depth 101 where it was not deepest", joined(p, within(60, api.Not, 0, node(api.Atom, 0))), deep(99), api.ErrDeep},
		{"too many and too deep", joined(within(60, api.Not, 0, p), sized(900)), deep(99), api.ErrMany},
	}
}

// P5.1, P5.2, P5.3, R9: at the limits and beyond them.
func TestLimits(t *testing.T) {
	for _, c := range limits() {
		if expr.Right(c.a) != api.OK || expr.Right(c.term) != api.OK {
			t.Errorf("%s: not valid: %d, %d", c.name, expr.Right(c.a), expr.Right(c.term))
		}
		want := byWords(c.a, []api.Pair{{Var: 7, For: c.term}})
		if fault := expr.Right(want); fault != c.want {
			t.Errorf("%s: the result has %d; want %d", c.name, fault, c.want)
		}
		puts(t, c.a, 7, c.term, want, c.want)
		safes(t, c.a, 7, c.term, want, c.want)
		eaches(t, c.a, []api.Pair{{Var: 7, For: c.term}}, want, c.want)
	}
}

// R1, R9: nothing is built that has a million nodes.
func TestHugeResult(t *testing.T) {
	term := within(99, api.App, 0, node(api.Var, 7))
	a := samples.Doubled(7, node(api.Atom, 0, node(api.Var, 7), node(api.Var, 7), node(api.Var, 7)))
	for range 2000 {
		puts(t, a, 7, term, api.Expr{}, api.ErrMany)
		safes(t, a, 7, term, api.Expr{}, api.ErrMany)
	}
}

// P5.1, P5.2, R2, R3, R8: first the number, then a, then t, then the sort of t.
func TestPutWrong(t *testing.T) {
	x, a := node(api.Var, 1), read(t, "(@x1 P0(x0, x1) > P1(x1))")
	both := func(a api.Expr, x int, term api.Expr, want api.Errno) {
		t.Helper()
		puts(t, a, x, term, api.Expr{}, want)
		safes(t, a, x, term, api.Expr{}, want)
	}
	for _, n := range samples.Outside() {
		both(a, n, x, api.ErrArg)
		both(a, n, a, api.ErrArg)
		both(samples.Looped(), n, api.Expr{}, api.ErrArg)
	}
	eachWrong(func(e api.Expr, want api.Errno) {
		both(e, 0, x, want)
		both(a, 0, e, want)
		both(e, 0, a, want)
		both(e, 64, x, api.ErrArg)
		eachWrong(func(other api.Expr, _ api.Errno) {
			both(e, 0, other, want)
		})
	})
	for _, formula := range []string{"P0", "P0(x1)", "x1 = x1", "!P0", "(P0 > P0)", "(P0 & P0)", "(P0 | P0)", "@x1 P0", "?x1 P0"} {
		for _, where := range []string{"@x1 P0(x0)", "x0", "f0", "P1"} {
			both(read(t, where), 0, read(t, formula), api.ErrSort)
		}
	}
	// Of capture and a result that is too large, capture comes first.
	large := within(60, api.App, 0, node(api.Var, 1))
	puts(t, within(60, api.Not, 0, read(t, "@x1 P0(x0)")), 0, large, api.Expr{}, api.ErrCapture)
	puts(t, node(api.Imp, 0, read(t, "@x1 P0(x0)"), sized(990)), 0, large, api.Expr{}, api.ErrCapture)
}

// P5.1: as the words say it, for arbitrary arguments.
func TestPutByWords(t *testing.T) {
	r := rand.New(rand.NewSource(51))
	captured := 0
	for range 6000 {
		a, x, term := samples.AnyFormula(r, 2+r.Intn(5)), samples.AnyVariable(r), samples.AnyTerm(r, 3)
		if is, _ := free.FreeFor(term, x, a); !is {
			captured++
			puts(t, a, x, term, api.Expr{}, api.ErrCapture)
			continue
		}
		puts(t, a, x, term, byWords(a, []api.Pair{{Var: x, For: term}}), api.OK)
	}
	if captured < 500 {
		t.Errorf("something is captured in only %d of the samples", captured)
	}
}
