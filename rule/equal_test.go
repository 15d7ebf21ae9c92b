package rule

import (
	"math/rand"
	"testing"

	"organon/api"
	"organon/expr"
	"organon/samples"
)

// equals fails unless Equal(a, b) is want and the wanted error.
func equals(t *testing.T, a, b api.Expr, want bool, wanted api.Errno) {
	t.Helper()
	if is, fault := Equal(a, b); is != want || fault != wanted {
		t.Errorf("Equal(%s, %s) = %v, %d; want %v, %d", text(a), text(b), is, fault, want, wanted)
	}
}

// P8.2: the row of the examples.
func TestEqualExamples(t *testing.T) {
	equals(t, read(t, "(P0 | P1)"), read(t, "(!P0 > P1)"), true, api.OK)
	equals(t, read(t, "P0"), read(t, "x0"), false, api.OK)
}

// P8.2
func TestEqual(t *testing.T) {
	for _, c := range []struct {
		a, b string
		want bool
	}{
		{"(P0 & P1)", "!(P0 > !P1)", true},
		{"?x0 P0(x0)", "!@x0 !P0(x0)", true},
		{"((P0 & P1) | ?x0 P0(x0))", "(!!(P0 > !P1) > !@x0 !P0(x0))", true},
		{"((P0 & P1) | ?x0 P0(x0))", "(!(P0 & P1) > ?x0 P0(x0))", true},
		{"!(P0 > !?x0 P0(x0))", "(P0 & !@x0 !P0(x0))", true},
		{"!(P0 | P1)", "!(!P0 > P1)", true},
		{"(!P0 | P1)", "(!!P0 > P1)", true},
		// Equivalent is not enough.
		{"(!P0 | P1)", "(P0 > P1)", false},
		{"(P0 & P1)", "(P1 & P0)", false},
		{"(P0 | P1)", "(P1 | P0)", false},
		{"(P0 & P1)", "(P0 | P1)", false},
		{"!!P0", "P0", false},
		{"@x0 P0(x0)", "@x1 P0(x1)", false},
		{"?x0 P0(x0)", "?x1 P0(x1)", false},
		{"?x0 P0(x0)", "@x0 P0(x0)", false},
		{"!(P0 & P1)", "(P0 > !P1)", false},
		{"P0", "P1", false},
		{"P0", "P0(x0)", false},
		{"x0 = x1", "x1 = x0", false},
		// Terms.
		{"x0", "x0", true},
		{"x0", "x1", false},
		{"f0(x0, f1)", "f0(x0, f1)", true},
		{"f0", "f0(f0)", false},
		{"x0", "f0", false},
		{"f0", "P0", false},
	} {
		equals(t, read(t, c.a), read(t, c.b), c.want, api.OK)
		equals(t, read(t, c.b), read(t, c.a), c.want, api.OK)
	}
}

// P8.2: as the words say it, for arbitrary formulas.
func TestEqualByWords(t *testing.T) {
	r := rand.New(rand.NewSource(82))
	yes, no := 0, 0
	for range 4000 {
		a := samples.AnyFormula(r, 1+r.Intn(5))
		b := someUnfolded(r, a)
		if r.Intn(2) == 0 {
			b = altered(r, b)
		}
		want := expr.Same(byWords(a), byWords(b))
		equals(t, a, b, want, api.OK)
		switch {
		case !want:
			no++
		case !expr.Same(a, b):
			yes++
		}
	}
	if yes < 500 || no < 500 {
		t.Errorf("%d samples are equal and not the same, %d are not equal", yes, no)
	}
	for _, e := range valid() {
		if expr.Right(byWords(e)) == api.OK {
			equals(t, e, e, true, api.OK)
		}
	}
}

// P8.2, R2, R3, R8: the first argument that is not valid, then the plain form of a, then that of b.
func TestEqualWrong(t *testing.T) {
	good := read(t, "(P0 & P1)")
	many, deep := node(api.And, 0, sized(499), sized(499)), within(34, api.Some, 0, node(api.Atom, 0))
	eachWrong(func(e api.Expr, want api.Errno) {
		equals(t, e, good, false, want)
		equals(t, good, e, false, want)
		equals(t, many, e, false, want)
		equals(t, deep, e, false, want)
		equals(t, e, many, false, want)
		equals(t, e, deep, false, want)
		equals(t, e, e, false, want)
		eachWrong(func(other api.Expr, _ api.Errno) {
			equals(t, e, other, false, want)
		})
	})
	for _, c := range []struct {
		a, b api.Expr
		want api.Errno
	}{
		{many, good, api.ErrMany}, {good, many, api.ErrMany}, {many, many, api.ErrMany}, {many, deep, api.ErrMany},
		{deep, good, api.ErrDeep}, {good, deep, api.ErrDeep}, {deep, deep, api.ErrDeep}, {deep, many, api.ErrDeep},
		{samples.Variable(0), many, api.ErrMany}, {deep, samples.Variable(0), api.ErrDeep},
	} {
		equals(t, c.a, c.b, false, c.want)
	}
}

// P8.2, R9: at the limits.
func TestEqualAtLimits(t *testing.T) {
	for _, c := range limits() {
		equals(t, c.e, c.e, c.want == api.OK, c.want)
		if c.want == api.OK {
			equals(t, c.e, byWords(c.e), true, api.OK)
		}
	}
}
