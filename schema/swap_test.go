package schema

import (
	"math/rand"
	"testing"

	"organon/api"
	"organon/expr"
	"organon/samples"
)

// swaps fails unless Swapped returns want and the wanted error.
func swaps(t *testing.T, a, b, term, other api.Expr, want bool, wanted api.Errno) {
	t.Helper()
	if is, fault := Swapped(a, b, term, other); is != want || fault != wanted {
		t.Errorf("Swapped(%s, %s, %s, %s) = %v, %d; want %v, %d", text(a), text(b), text(term), text(other), is, fault, want, wanted)
	}
}

// P7.4
func TestSwapped(t *testing.T) {
	for _, c := range []struct {
		a, b, t, u string
		want       bool
	}{
		// None, some, or all.
		{"P0(x0, x0)", "P0(x0, x0)", "x0", "x1", true},
		{"P0(x0, x0)", "P0(x1, x0)", "x0", "x1", true},
		{"P0(x0, x0)", "P0(x0, x1)", "x0", "x1", true},
		{"P0(x0, x0)", "P0(x1, x1)", "x0", "x1", true},
		{"P0(x0, x0)", "P0(x1, x2)", "x0", "x1", false},
		{"P0(x0, x1)", "P0(x1, x0)", "x0", "x1", false},
		{"P0(x1)", "P0(x0)", "x0", "x1", false},
		{"P0(x1)", "P0(x1)", "x0", "x1", true},
		{"P0(x2)", "P0(x1)", "x0", "x1", false},
		// Terms with terms in them.
		{"P0(f0(x0), f0(x1))", "P0(f1, f0(x1))", "f0(x0)", "f1", true},
		{"P0(f0(x0), f0(x1))", "P0(f1, f1)", "f0(x0)", "f1", false},
		{"f0(f0(x0)) = x0", "f0(f0(f1)) = x0", "x0", "f1", true},
		{"f0(f0(x0)) = x0", "f0(x1) = x0", "f0(x0)", "x1", true},
		{"f0(f0(x0)) = x0", "x1 = x0", "f0(x0)", "x1", false},
		{"P0(f0(f0))", "P0(f0)", "f0(f0)", "f0", true},
		{"P0(f0(f0))", "P0(f0(f0(f0)))", "f0", "f0(f0)", true},
		{"P0(f0)", "P0(f0(f0))", "f0", "f0(f0)", true},
		{"P0(f0)", "P0(f0(f0(f0)))", "f0", "f0(f0)", false},
		{"P0(f0, f0(f0))", "P0(f0(f0), f0(f0))", "f0", "f0(f0)", true},
		// A symbol with other arguments is another one, and a predicate no term.
		{"P0(f0)", "P0(f0(x0))", "f0(x0)", "f0", false},
		{"P0(f0, x0)", "P0(f1, x0)", "f0", "f1", true},
		{"(P0 > P1)", "(P0 > P0)", "f1", "f0", false},
		// All kinds of formulas.
		{"!P0(f0)", "!P0(f1)", "f0", "f1", true},
		{"(P0(f0) > P0(f0))", "(P0(f0) > P0(f1))", "f0", "f1", true},
		{"(P0(f0) & P0(f0))", "(P0(f1) & P0(f0))", "f0", "f1", true},
		{"(P0(f0) | P0(f0))", "(P0(f1) | P0(f1))", "f0", "f1", true},
		{"(P0(f0) | P0(f0))", "(P0(f1) & P0(f1))", "f0", "f1", false},
		{"@x0 P0(f0)", "@x0 P0(f1)", "f0", "f1", true},
		{"?x0 P0(f0)", "?x0 P0(f1)", "f0", "f1", true},
		{"?x0 P0(f0)", "@x0 P0(f1)", "f0", "f1", false},
		{"@x0 P0(f0)", "@x1 P0(f1)", "f0", "f1", false},
		{"P0", "P0", "x0", "x1", true},
		{"P0", "P1", "x0", "x1", false},
		{"P0(x0)", "P0(x0, x0)", "x0", "x1", false},
		{"P0(x0, x0)", "P0(x1)", "x0", "x1", false},
		// A quantifier of a variable of t or of u, directly around or further out.
		{"@x0 P0(x0)", "@x0 P0(x1)", "x0", "x1", false},
		{"@x1 P0(x0)", "@x1 P0(x1)", "x0", "x1", false},
		{"?x1 P0(x0)", "?x1 P0(x1)", "x0", "x1", false},
		{"@x2 P0(x0)", "@x2 P0(x1)", "x0", "x1", true},
		{"@x1 @x2 P0(x0)", "@x1 @x2 P0(x1)", "x0", "x1", false},
		{"@x2 @x1 P0(x0)", "@x2 @x1 P0(x1)", "x0", "x1", false},
		{"@x63 P0(f0(x62, x63))", "@x63 P0(f1)", "f0(x62, x63)", "f1", false},
		{"@x62 P0(f0(x62, x63))", "@x62 P0(f1)", "f0(x62, x63)", "f1", false},
		{"@x61 P0(f0(x62, x63))", "@x61 P0(f1)", "f0(x62, x63)", "f1", true},
		{"@x63 P0(f1)", "@x63 P0(f0(x62, x63))", "f1", "f0(x62, x63)", false},
		{"@x0 P0(x0)", "@x0 P0(x0)", "x0", "x1", true},
		{"@x1 P0(x0)", "@x1 P0(x0)", "x0", "x1", true},
		// Beside such a quantifier there is none.
		{"(@x1 P0(x0) > P0(x0))", "(@x1 P0(x0) > P0(x1))", "x0", "x1", true},
		{"(P0(x0) > @x1 P0(x0))", "(P0(x1) > @x1 P0(x0))", "x0", "x1", true},
		{"(P0(x0) > @x1 P0(x0))", "(P0(x1) > @x1 P0(x1))", "x0", "x1", false},
		// The same term for itself: nothing but the same formula.
		{"P0(x0)", "P0(x0)", "x0", "x0", true},
		{"@x0 P0(x0)", "@x0 P0(x0)", "x0", "x0", true},
		{"P0(x0)", "P0(x1)", "x0", "x0", false},
		// The difference comes last.
		{"(P0(x0) & (P0(x0) & P1))", "(P0(x1) & (P0(x1) & P2))", "x0", "x1", false},
	} {
		swaps(t, read(t, c.a), read(t, c.b), read(t, c.t), read(t, c.u), c.want, api.OK)
	}
}

// P7.4, R2, R8: the first argument that is not valid, then the sorts.
func TestSwappedWrong(t *testing.T) {
	good := func() []api.Expr {
		return []api.Expr{read(t, "P0(x0)"), read(t, "P0(x1)"), read(t, "x0"), read(t, "x1")}
	}
	refused := func(l []api.Expr, want api.Errno) {
		t.Helper()
		swaps(t, l[0], l[1], l[2], l[3], false, want)
	}
	swaps(t, good()[0], good()[1], good()[2], good()[3], true, api.OK)
	for i := range 4 {
		for _, w := range samples.Wrong() {
			l := good()
			l[i] = w.Expr
			refused(l, w.Code)
			for j := range i {
				l[j] = good()[3-j]
			}
			refused(l, w.Code)
			for j := i + 1; j < 4; j++ {
				for _, other := range samples.Wrong() {
					l[j] = other.Expr
					refused(l, w.Code)
				}
			}
		}
		l := good()
		l[i] = good()[3-i]
		refused(l, api.ErrSort)
	}
	for _, s := range []string{"P0", "x0 = x0", "!P0", "(P0 > P0)", "(P0 & P0)", "(P0 | P0)", "@x1 P0", "?x1 P0"} {
		refused([]api.Expr{good()[0], good()[1], read(t, s), good()[3]}, api.ErrSort)
		refused([]api.Expr{good()[0], good()[1], good()[2], read(t, s)}, api.ErrSort)
	}
	for _, s := range []string{"x0", "f0", "f0(x0)"} {
		refused([]api.Expr{read(t, s), good()[1], good()[2], good()[3]}, api.ErrSort)
		refused([]api.Expr{good()[0], read(t, s), good()[2], good()[3]}, api.ErrSort)
		refused([]api.Expr{read(t, s), read(t, s), good()[2], good()[3]}, api.ErrSort)
	}
}

// P7.4: as the words say it, for arbitrary formulas.
func TestSwappedByWords(t *testing.T) {
	r := rand.New(rand.NewSource(74))
	yes, no, apart := 0, 0, 0
	for range 6000 {
		a, term, other := anySwap(r)
		b := someSwapped(r, a, term, other)
		if r.Intn(6) == 0 {
			b = altered(r, b)
		}
		want := swappedByWords(a, b, term, other)
		swaps(t, a, b, term, other, want, api.OK)
		switch {
		case !want:
			no++
		case expr.Same(a, b):
			yes++
		default:
			yes++
			apart++
		}
	}
	if yes < 1000 || no < 500 || apart < 500 {
		t.Errorf("%d samples are swapped, %d of them with a change, and %d are not", yes, apart, no)
	}
}

// P7.4, R1: at the limits, where nearly every part is like the term.
func TestSwappedAtLimits(t *testing.T) {
	chain := func(depth int, last api.Expr) api.Expr { return within(depth-1, api.App, 0, last) }
	x, c := samples.Variable(63), node(api.App, 0)
	a, b := node(api.Atom, 0, chain(99, x)), node(api.Atom, 0, chain(49, c))
	swaps(t, a, b, chain(51, x), c, true, api.OK)
	swaps(t, b, a, c, chain(51, x), true, api.OK)
	swaps(t, a, b, chain(50, x), c, false, api.OK)
	swaps(t, a, b, chain(99, x), chain(49, c), true, api.OK)
	wide := samples.SizedTerm(499)
	for range 50 {
		swaps(t, node(api.Eq, 0, wide, wide), node(api.Eq, 0, c, wide), wide, c, true, api.OK)
		swaps(t, node(api.Eq, 0, c, wide), node(api.Eq, 0, wide, wide), c, wide, true, api.OK)
		swaps(t, node(api.Eq, 0, wide, wide), node(api.Eq, 0, wide, c), samples.SizedTerm(498), c, false, api.OK)
	}
	swaps(t, sized(1000), sized(1000), x, c, true, api.OK)
	swaps(t, sized(1000), sized(999), x, c, false, api.OK)
}
