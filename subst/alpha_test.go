package subst

import (
	"math/rand"
	"slices"
	"testing"

	"organon/api"
	"organon/samples"
)

// alphas fails unless Alpha returns want and the wanted error, whichever comes first.
func alphas(t *testing.T, a, b api.Expr, want bool, wanted api.Errno) {
	t.Helper()
	if is, fault := Alpha(a, b); is != want || fault != wanted {
		t.Errorf("Alpha(%s, %s) = %v, %d; want %v, %d", text(a), text(b), is, fault, want, wanted)
	}
	if is, fault := Alpha(b, a); is != want || fault != wanted {
		t.Errorf("Alpha(%s, %s) = %v, %d; want %v, %d", text(b), text(a), is, fault, want, wanted)
	}
}

// P5.4: the row of the examples.
func TestAlphaExamples(t *testing.T) {
	alphas(t, read(t, "@x0 P0(x0)"), read(t, "@x5 P0(x5)"), true, api.OK)
	alphas(t, read(t, "@x0 P0(x1)"), read(t, "@x1 P0(x1)"), false, api.OK)
	alphas(t, read(t, "x0"), read(t, "x1"), false, api.OK)
}

// P5.4
func TestAlpha(t *testing.T) {
	for _, c := range []struct {
		a, b string
		want bool
	}{
		{"x0", "x0", true},
		{"f0(x1, f1)", "f0(x1, f1)", true},
		{"f0(x1, f1)", "f0(x1, f2)", false},
		{"f0", "f0(x0)", false},
		{"P0(x0)", "P0(x0, x0)", false},
		{"P0", "P1", false},
		{"f0", "P0", false},
		{"x0", "f0", false},
		{"P0", "x0 = x0", false},
		{"x0 = x1", "x0 = x1", true},
		{"x0 = x1", "x1 = x0", false},
		{"!P0", "P0", false},
		{"(P0 > P1)", "(P0 & P1)", false},
		{"(P0 | P1)", "(P0 & P1)", false},
		{"(P0 > P1)", "(P1 > P0)", false},
		// The kind of a quantifier counts, its name does not.
		{"@x0 P0(x0)", "?x0 P0(x0)", false},
		{"?x0 P0(x0)", "?x63 P0(x63)", true},
		{"@x0 P0", "@x1 P0", true},
		{"@x0 P0(x2)", "@x1 P0(x2)", true},
		{"@x0 P0(x2)", "@x1 P0(x3)", false},
		// Free in one of them, bound in the other one.
		{"@x0 P0(x0)", "@x1 P0(x0)", false},
		{"@x0 P0(x0)", "@x0 P0(x1)", false},
		{"@x0 (P0(x0) > P0(x1))", "@x1 (P0(x1) > P0(x1))", false},
		// Several quantifiers around an occurrence.
		{"@x0 @x1 P0(x0, x1)", "@x1 @x0 P0(x1, x0)", true},
		{"@x0 @x1 P0(x0, x1)", "@x0 @x1 P0(x1, x0)", false},
		{"@x0 @x1 P0(x0, x1)", "@x1 @x0 P0(x0, x1)", false},
		{"@x0 @x0 P0(x0)", "@x0 @x1 P0(x1)", true},
		{"@x0 @x0 P0(x0)", "@x0 @x1 P0(x0)", false},
		{"@x0 @x0 P0(x0)", "@x1 @x0 P0(x0)", true},
		{"@x0 @x0 P0(x0)", "@x1 @x1 P0(x1)", true},
		{"@x0 ?x1 @x2 P0(x0)", "@x3 ?x3 @x2 P0(x3)", false},
		// A quantifier binds nothing beside it.
		{"(@x0 P0(x0) > P0(x0))", "(@x1 P0(x1) > P0(x0))", true},
		{"(@x0 P0(x0) > P0(x0))", "(@x1 P0(x1) > P0(x1))", false},
		{"(P0(x0) > @x0 P0(x0))", "(P0(x0) > @x1 P0(x1))", true},
		{"(@x0 P0(x0) & @x1 P0(x1))", "(@x1 P0(x1) & @x1 P0(x1))", true},
		{"@x0 (@x1 P0(x1) > P0(x0))", "@x1 (@x1 P0(x1) > P0(x1))", true},
		{"@x0 (@x1 P0(x1) > P0(x1))", "@x1 (@x1 P0(x1) > P0(x1))", false},
		// The difference is at the end, or at the beginning.
		{"(P0 & (P0 & (P0 & P0(x0))))", "(P0 & (P0 & (P0 & P0(x1))))", false},
		{"(P0(x0) & (P0 & (P0 & P0)))", "(P0(x1) & (P0 & (P0 & P0)))", false},
		{"P0(x0, x1, x2, x3)", "P0(x0, x1, x2, x4)", false},
		{"P0(x0, x1, x2, x3)", "P0(x4, x1, x2, x3)", false},
		{"@x0 P0(x0, x1, x0, x1)", "@x1 P0(x1, x1, x1, x1)", false},
	} {
		alphas(t, read(t, c.a), read(t, c.b), c.want, api.OK)
	}
}

// P5.4, R1: as many quantifiers as may be, more than there are variables.
func TestAlphaAtLimits(t *testing.T) {
	nested := func(bound, last int) api.Expr {
		a := node(api.Atom, 0, node(api.Var, last))
		for i := range 98 {
			a = node(api.All, (bound*i)%64, a)
		}
		return a
	}
	// In the first the innermost quantifier binds, and in the second one as well, as it names x0, too.
	alphas(t, nested(0, 0), nested(1, 0), true, api.OK)
	alphas(t, nested(1, 0), nested(1, 1), false, api.OK)
	alphas(t, nested(1, 5), nested(3, 15), true, api.OK)
	alphas(t, nested(0, 1), nested(2, 1), true, api.OK)
	alphas(t, nested(0, 1), nested(2, 2), false, api.OK)
	alphas(t, sized(1000), sized(1000), true, api.OK)
	alphas(t, sized(1000), sized(999), false, api.OK)
}

// P5.4, R2, R8: the first one that is not valid; one that does not end is not compared.
func TestAlphaWrong(t *testing.T) {
	good := read(t, "@x0 P0(x0)")
	eachWrong(func(e api.Expr, want api.Errno) {
		alphas(t, e, good, false, want)
		alphas(t, e, e, false, want)
		eachWrong(func(other api.Expr, _ api.Errno) {
			if is, fault := Alpha(e, other); is || fault != want {
				t.Errorf("%v, %d; want %d", is, fault, want)
			}
		})
	})
}

// alphaByWords is Alpha by the words of P5.4: around are the variables of the quantifiers around a and b, from the root on.
func alphaByWords(a, b api.Expr, aroundA, aroundB []int) bool {
	named := a.Kind == api.Var || quantifies(a)
	if a.Kind != b.Kind || len(a.Kids) != len(b.Kids) || !named && a.Id != b.Id {
		return false
	}
	if a.Kind == api.Var {
		by := binder(a.Id, aroundA)
		return by == binder(b.Id, aroundB) && (by >= 0 || a.Id == b.Id)
	}
	if quantifies(a) {
		aroundA, aroundB = append(slices.Clone(aroundA), a.Id), append(slices.Clone(aroundB), b.Id)
	}
	for i := range a.Kids {
		if !alphaByWords(a.Kids[i], b.Kids[i], aroundA, aroundB) {
			return false
		}
	}
	return true
}

// altered returns a with some variables and quantifiers named anew, at random.
func altered(r *rand.Rand, a api.Expr) api.Expr {
	e := node(a.Kind, a.Id)
	if (a.Kind == api.Var || quantifies(a)) && r.Intn(4) == 0 {
		e.Id = samples.AnyVariable(r)
	}
	for _, kid := range a.Kids {
		e.Kids = append(e.Kids, altered(r, kid))
	}
	return e
}

// P5.4: as the words say it, for arbitrary expressions and what becomes of them by a few other names.
func TestAlphaByWords(t *testing.T) {
	r := rand.New(rand.NewSource(54))
	same := 0
	for range 20000 {
		a := samples.AnyFormula(r, 2+r.Intn(3))
		b := altered(r, a)
		want := alphaByWords(a, b, nil, nil)
		alphas(t, a, b, want, api.OK)
		if want && text(a) != text(b) {
			same++
		}
	}
	if same < 500 {
		t.Errorf("only %d of the samples are equivalent and not equal", same)
	}
}
