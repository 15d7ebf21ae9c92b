package subst

import (
	"math/rand"
	"strconv"
	"testing"

	"organon/api"
	"organon/expr"
	"organon/free"
	"organon/samples"
)

// safes fails unless Safe returns want, or the wanted error.
func safes(t *testing.T, a api.Expr, x int, term, want api.Expr, wanted api.Errno) {
	t.Helper()
	got, fault := Safe(a, x, term)
	outcome(t, "Safe("+text(a)+", "+strconv.Itoa(x)+", "+text(term)+")", got, fault, want, wanted)
}

// P5.2: the rows of the examples.
func TestSafeExamples(t *testing.T) {
	safes(t, read(t, "@x1 P0(x0, x1)"), 0, read(t, "x1"), read(t, "@x2 P0(x1, x2)"), api.OK)
	safes(t, read(t, "@x1 @x2 P0(x0, x1, x2)"), 0, read(t, "f0(x1, x2)"), read(t, "@x3 @x4 P0(f0(x1, x2), x3, x4)"), api.OK)
}

// P5.2
func TestSafe(t *testing.T) {
	for _, c := range []struct {
		a    string
		x    int
		term string
		want string
	}{
		// Nothing would be captured.
		{"x0", 0, "x1", "x1"},
		{"f0(x0, x1)", 0, "f1(x0)", "f0(f1(x0), x1)"},
		{"@x1 P0(x0, x1)", 0, "f0", "@x1 P0(f0, x1)"},
		{"@x1 P0(x0, x1)", 0, "x2", "@x1 P0(x2, x1)"},
		// The node stays as it is: the quantifier is one of x.
		{"@x0 P0(x0, x1)", 0, "x1", "@x0 P0(x0, x1)"},
		{"@x0 @x1 P0(x0, x1)", 0, "x1", "@x0 @x1 P0(x0, x1)"},
		{"@x0 P0(x0)", 0, "f0(x0)", "@x0 P0(x0)"},
		// Or x is not free inside it.
		{"@x1 P0(x1)", 0, "x1", "@x1 P0(x1)"},
		{"@x1 @x0 P0(x0, x1)", 0, "x1", "@x1 @x0 P0(x0, x1)"},
		{"(@x1 P0(x1) > @x1 P0(x0, x1))", 0, "x1", "(@x1 P0(x1) > @x2 P0(x1, x2))"},
		{"@x1 (@x1 P0(x1) > P0(x0))", 0, "x1", "@x2 (@x1 P0(x1) > P0(x1))"},
		// Each kind of node above, and each quantifier.
		{"!?x1 P0(x0, x1)", 0, "x1", "!?x2 P0(x1, x2)"},
		{"(@x1 x0 = x1 & P0)", 0, "x1", "(@x2 x1 = x2 & P0)"},
		{"(P0 | ?x1 x0 = x1)", 0, "x1", "(P0 | ?x2 x1 = x2)"},
		{"(@x1 P0(x0) > ?x1 P1(x0))", 0, "x1", "(@x2 P0(x1) > ?x2 P1(x1))"},
		{"@x5 @x1 P0(x0, x1, x5)", 0, "x1", "@x5 @x2 P0(x1, x2, x5)"},
		// The new variable: the smallest one that is not x, not in t and not in the Kid.
		{"@x0 P0(x1)", 1, "x0", "@x2 P0(x0)"},
		{"@x3 P0(x4, x3)", 4, "x3", "@x0 P0(x3, x0)"},
		{"@x3 P0(x0, x3)", 0, "f0(x3, x2)", "@x1 P0(f0(x3, x2), x1)"},
		{"@x1 P0(x0, x2)", 0, "x1", "@x3 P0(x1, x2)"},
		{"@x1 (P0(x0) & @x2 P0)", 0, "x1", "@x3 (P0(x1) & @x2 P0)"},
		{"@x1 (P0(x0) & @x3 P0(x2))", 0, "x1", "@x4 (P0(x1) & @x3 P0(x2))"},
		{"(P0(x2) > @x1 P0(x0, x1))", 0, "x1", "(P0(x2) > @x2 P0(x1, x2))"},
		// Only the free occurrences in the Kid are renamed.
		{"@x1 (P0(x0, x1) > @x1 P1(x1))", 0, "x1", "@x2 (P0(x1, x2) > @x1 P1(x1))"},
		// Inner quantifiers see what the outer ones were renamed to.
		{"@x1 @x1 P0(x0, x1)", 0, "x1", "@x2 @x2 P0(x1, x2)"},
		{"@x1 (P0(x1) > @x1 P0(x0, x1))", 0, "x1", "@x2 (P0(x2) > @x2 P0(x1, x2))"},
		{"@x1 @x2 P0(x0, x1)", 0, "f0(x1, x2)", "@x3 @x4 P0(f0(x1, x2), x3)"},
		{"@x1 @x2 P0(x0, x2)", 0, "f0(x1, x2)", "@x3 @x3 P0(f0(x1, x2), x3)"},
		{"@x1 @x2 P0(x0, x1, x2)", 0, "x2", "@x1 @x3 P0(x2, x1, x3)"},
		{"@x1 @x2 P0(x0, x1, x2)", 0, "x1", "@x3 @x2 P0(x1, x3, x2)"},
		// t contains x.
		{"@x1 P0(x0, x1)", 0, "f0(x0, x1)", "@x2 P0(f0(x0, x1), x2)"},
	} {
		safes(t, read(t, c.a), c.x, read(t, c.term), read(t, c.want), api.OK)
	}
}

// most returns a formula in which all variables are free but those that are left out.
func most(left ...int) api.Expr {
	var l []api.Pair
	for _, x := range left {
		l = append(l, api.Pair{Var: x, For: node(api.App, 0)})
	}
	return byWords(first(64), l)
}

// P5.2: no variable is left for a quantifier, or just one.
func TestSafeVars(t *testing.T) {
	x1, joined := node(api.Var, 1), func(a, b api.Expr) api.Expr { return node(api.Imp, 0, a, b) }
	all := node(api.All, 1, most())
	safes(t, all, 0, x1, api.Expr{}, api.ErrVars)
	safes(t, all, 0, node(api.Var, 63), byWords(all, []api.Pair{{Var: 0, For: node(api.Var, 63)}}), api.OK)
	safes(t, node(api.All, 1, most(63)), 0, x1,
		node(api.All, 63, byWords(most(63), []api.Pair{{Var: 0, For: x1}, {Var: 1, For: node(api.Var, 63)}})), api.OK)
	safes(t, node(api.All, 1, most(62, 63)), 0, read(t, "f0(x1, x62)"),
		node(api.All, 63, byWords(most(62, 63), []api.Pair{{Var: 0, For: read(t, "f0(x1, x62)")}, {Var: 1, For: node(api.Var, 63)}})), api.OK)
	safes(t, node(api.All, 1, most(63)), 0, read(t, "f0(x1, x63)"), api.Expr{}, api.ErrVars)
	// x itself is not taken, although it is not left in the end.
	safes(t, node(api.All, 1, joined(most(0, 63), read(t, "P0(x0)"))), 0, read(t, "f0(x1, x63)"), api.Expr{}, api.ErrVars)
	// A quantifier names the last one inside.
	safes(t, node(api.All, 1, joined(most(63), read(t, "@x63 P0"))), 0, x1, api.Expr{}, api.ErrVars)
	// One that stays as it is needs none.
	safes(t, node(api.All, 0, all), 0, x1, node(api.All, 0, all), api.OK)
	closed := node(api.All, 1, node(api.All, 0, most()))
	safes(t, closed, 0, x1, closed, api.OK)
	// One of two that are side by side, or one within the other.
	safes(t, joined(read(t, "@x1 P0(x0)"), all), 0, x1, api.Expr{}, api.ErrVars)
	safes(t, joined(all, read(t, "@x1 P0(x0)")), 0, x1, api.Expr{}, api.ErrVars)
	safes(t, node(api.All, 1, all), 0, x1, api.Expr{}, api.ErrVars)
	safes(t, node(api.All, 2, all), 0, x1, api.Expr{}, api.ErrVars)
	safes(t, node(api.All, 1, node(api.All, 2, most(63))), 0, read(t, "f0(x1, x2)"), api.Expr{}, api.ErrVars)
	safes(t, node(api.All, 1, node(api.All, 2, most(1, 63))), 0, read(t, "f0(x1, x2)"),
		node(api.All, 63, node(api.All, 63, byWords(most(1, 63), []api.Pair{{Var: 0, For: read(t, "f0(x1, x2)")}, {Var: 2, For: node(api.Var, 63)}}))), api.OK)
	// It comes ahead of a result that is too large.
	long := within(99, api.App, 0, x1)
	safes(t, joined(all, read(t, "P0(x0)")), 0, long, api.Expr{}, api.ErrVars)
	safes(t, joined(samples.Doubled(5, read(t, "P0(x0)")), all), 0, long, api.Expr{}, api.ErrVars)
}

// P5.2, R9: with renaming, at the limits and beyond them.
func TestSafeLimits(t *testing.T) {
	long := func(count int) api.Expr { return within(count-1, api.App, 0, node(api.Var, 1)) }
	for _, c := range []struct {
		a, term, want api.Expr
		fault         api.Errno
	}{
		{node(api.Imp, 0, read(t, "@x1 P0(x0, x1)"), sized(994)), long(2), node(api.Imp, 0, read(t, "@x2 P0(f0(x1), x2)"), sized(994)), api.OK},
		{node(api.Imp, 0, read(t, "@x1 P0(x0, x1)"), sized(994)), long(3), api.Expr{}, api.ErrMany},
		{read(t, "@x1 P0(x0, x1)"), long(98), node(api.All, 2, node(api.Atom, 0, long(98), node(api.Var, 2))), api.OK},
		{read(t, "@x1 P0(x0, x1)"), long(99), api.Expr{}, api.ErrDeep},
	} {
		safes(t, c.a, 0, c.term, c.want, c.fault)
	}
	// All quantifiers are renamed, each once more inside the ones around it.
	deep := within(98, api.All, 1, read(t, "P0(x0)"))
	safes(t, deep, 0, node(api.Var, 1), within(98, api.All, 2, read(t, "P0(x1)")), api.OK)
}

// safeByWords is Safe by the words of P5.2, for valid arguments, however large the result is.
func safeByWords(a api.Expr, x int, term api.Expr) (api.Expr, api.Errno) {
	if a.Kind == api.Var && a.Id == x {
		return term, api.OK
	}
	e := node(a.Kind, a.Id, a.Kids...)
	if quantifies(a) {
		kid := a.Kids[0]
		if is, _ := free.NotFree(x, kid); a.Id == x || is {
			return a, api.OK
		}
		inTerm, _ := free.Vars(term)
		inKid, _ := free.Vars(kid)
		if inTerm>>a.Id&1 == 1 {
			z := 0
			for z == x || z < 64 && (inTerm|inKid)>>z&1 == 1 {
				z++
			}
			if z == 64 {
				return api.Expr{}, api.ErrVars
			}
			e.Id = z
			e.Kids = []api.Expr{byWords(kid, []api.Pair{{Var: a.Id, For: node(api.Var, z)}})}
		}
	}
	kids := e.Kids
	e.Kids = nil
	for _, kid := range kids {
		done, fault := safeByWords(kid, x, term)
		if fault != api.OK {
			return api.Expr{}, fault
		}
		e.Kids = append(e.Kids, done)
	}
	return e, api.OK
}

// P5.2: as the words say it, for arbitrary arguments.
func TestSafeByWords(t *testing.T) {
	r := rand.New(rand.NewSource(52))
	renamed := 0
	for range 6000 {
		a, x, term := samples.AnyFormula(r, 2+r.Intn(6)), samples.AnyVariable(r), samples.AnyTerm(r, 3)
		want, fault := safeByWords(a, x, term)
		if fault == api.OK && expr.Right(want) != api.OK {
			want, fault = api.Expr{}, expr.Right(want)
		}
		safes(t, a, x, term, want, fault)
		if is, _ := free.FreeFor(term, x, a); !is {
			renamed++
		}
	}
	if renamed < 500 {
		t.Errorf("something is renamed in only %d of the samples", renamed)
	}
}
