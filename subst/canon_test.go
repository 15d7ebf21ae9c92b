package subst

import (
	"math/rand"
	"slices"
	"testing"

	"organon/api"
	"organon/free"
	"organon/samples"
)

// canons fails unless Canon returns want, or the wanted error.
func canons(t *testing.T, a, want api.Expr, wanted api.Errno) {
	t.Helper()
	got, fault := Canon(a)
	outcome(t, "Canon("+text(a)+")", got, fault, want, wanted)
}

// P5.5: the row of the examples.
func TestCanonExamples(t *testing.T) {
	canons(t, read(t, "@x5 (P0(x5, x0) > ?x5 P0(x5))"), read(t, "@x1 (P0(x1, x0) > ?x2 P0(x2))"), api.OK)
}

// P5.5
func TestCanon(t *testing.T) {
	for a, want := range map[string]string{
		"x5":                               "x5",
		"f0(x5, f1(x0))":                   "f0(x5, f1(x0))",
		"P5(x5)":                           "P5(x5)",
		"x1 = x2":                          "x1 = x2",
		"@x5 P0":                           "@x0 P0",
		"?x5 P0(x5)":                       "?x0 P0(x0)",
		"@x0 P0(x0)":                       "@x0 P0(x0)",
		"@x5 P5(f5(x5))":                   "@x0 P5(f5(x0))",
		"@x1 P0(x1, x0)":                   "@x1 P0(x1, x0)",
		"@x0 P0(x0, x1)":                   "@x0 P0(x0, x1)",
		"@x9 P0(x9, x0, x1, x3)":           "@x2 P0(x2, x0, x1, x3)",
		"@x9 @x8 P0(x9, x8)":               "@x0 @x1 P0(x0, x1)",
		"@x1 @x0 P0(x0, x1)":               "@x0 @x1 P0(x1, x0)",
		"@x5 ?x5 P0(x5)":                   "@x0 ?x1 P0(x1)",
		"@x5 @x6 @x5 P0(x5, x6)":           "@x0 @x1 @x2 P0(x2, x1)",
		"(@x5 P0(x5) & ?x6 P0(x6))":        "(@x0 P0(x0) & ?x0 P0(x0))",
		"(@x5 P0(x5) > P0(x0))":            "(@x1 P0(x1) > P0(x0))",
		"(P0(x0) | @x0 P0(x0))":            "(P0(x0) | @x1 P0(x1))",
		"(@x0 P0(x0) > P0(x0))":            "(@x1 P0(x1) > P0(x0))",
		"!@x3 !@x3 (P0(x3) > ?x2 P0(x3))":  "!@x0 !@x1 (P0(x1) > ?x2 P0(x1))",
		"@x3 (P0(x3) > (@x4 P0(x3) > P0))": "@x0 (P0(x0) > (@x1 P0(x0) > P0))",
		"@x3 (@x4 P0(x4) > P0(x4, x3))":    "@x0 (@x1 P0(x1) > P0(x4, x0))",
		// Free in a, although not inside the quantifier.
		"(@x5 P0 > (P0(x1) > P0(x0)))": "(@x2 P0 > (P0(x1) > P0(x0)))",
		"@x7 (@x0 P0(x0) & P0(x0))":    "@x1 (@x2 P0(x2) & P0(x0))",
	} {
		canons(t, read(t, a), read(t, want), api.OK)
	}
}

// P5.5: as many quantifiers within one another as there are variables that are not free, or one more.
func TestCanonVars(t *testing.T) {
	for open := range 64 {
		inner, outer := node(api.Atom, 0), api.Expr{}
		if open > 0 {
			inner = first(open)
		}
		outer = inner
		for x := 63; x >= open; x-- {
			outer = node(api.Some, x, outer)
		}
		other := within(64-open, api.Some, 63, inner)
		canons(t, outer, outer, api.OK)
		canons(t, other, outer, api.OK)
		canons(t, node(api.All, 63, other), api.Expr{}, api.ErrVars)
		canons(t, node(api.And, 0, node(api.Atom, 7), node(api.All, 63, other)), api.Expr{}, api.ErrVars)
		canons(t, node(api.And, 0, node(api.All, 63, other), node(api.Atom, 7)), api.Expr{}, api.ErrVars)
	}
	canons(t, node(api.All, 3, first(64)), node(api.All, 3, first(64)), api.OK)
	canons(t, node(api.And, 0, first(64), node(api.All, 3, node(api.Atom, 0))), api.Expr{}, api.ErrVars)
	canons(t, first(64), first(64), api.OK)
	canons(t, within(64, api.All, 0, node(api.Atom, 0)), within64(), api.OK)
	canons(t, within(65, api.All, 0, node(api.Atom, 0)), api.Expr{}, api.ErrVars)
	canons(t, within(99, api.All, 0, node(api.Atom, 0)), api.Expr{}, api.ErrVars)
	canons(t, sized(1000), sized(1000), api.OK)
}

// within64 returns an atom within a quantifier of each variable, x0 outermost.
func within64() api.Expr {
	a := node(api.Atom, 0)
	for x := 63; x >= 0; x-- {
		a = node(api.All, x, a)
	}
	return a
}

// P5.5, R2, R8
func TestCanonWrong(t *testing.T) {
	eachWrong(func(e api.Expr, want api.Errno) {
		canons(t, e, api.Expr{}, want)
	})
}

// canonByWords is Canon by the words of P5.5: were and are the variables of the quantifiers around a, from the root on,
// before and after their renaming.
func canonByWords(a api.Expr, open uint64, were, are []int) (api.Expr, bool) {
	e := node(a.Kind, a.Id)
	if i := binder(a.Id, were); a.Kind == api.Var && i >= 0 {
		e.Id = are[i]
	}
	if quantifies(a) {
		z := 0
		for z < 64 && (open>>z&1 == 1 || slices.Contains(are, z)) {
			z++
		}
		if z == 64 {
			return api.Expr{}, false
		}
		e.Id = z
		were, are = append(slices.Clone(were), a.Id), append(slices.Clone(are), z)
	}
	for _, kid := range a.Kids {
		done, is := canonByWords(kid, open, were, are)
		if !is {
			return api.Expr{}, false
		}
		e.Kids = append(e.Kids, done)
	}
	return e, true
}

// P5.5: as the words say it, for arbitrary expressions.
func TestCanonByWords(t *testing.T) {
	r := rand.New(rand.NewSource(55))
	for _, a := range append(valid(), within(30, api.All, 5, samples.AnyFormula(r, 5))) {
		open, _ := free.Free(a)
		want, is := canonByWords(a, open, nil, nil)
		wanted := api.OK
		if !is {
			wanted = api.ErrVars
		}
		canons(t, a, want, wanted)
	}
}
