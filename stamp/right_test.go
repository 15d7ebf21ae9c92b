package stamp

import (
	"math"
	"math/rand"
	"strings"
	"testing"

	"organon/api"
	"organon/samples"
)

// is fails unless Right of the list is the error, and so are the errors of Bytes and Local, beside which is nothing.
func is(t *testing.T, told []api.Told, want api.Errno) {
	t.Helper()
	if fault := Right(told); fault != want {
		t.Errorf("Right: %d; want %d", fault, want)
	}
	b, fault := Bytes("ab", told)
	if fault != want || want != api.OK && len(b) > 0 {
		t.Errorf("Bytes: %v, %d; want %d", b, fault, want)
	}
	n, fault := Local("ab", told)
	if fault != want || want != api.OK && n != 0 {
		t.Errorf("Local: %d, %d; want %d", n, fault, want)
	}
}

// P11.1: the examples.
func TestRightExamples(t *testing.T) {
	x := samples.Variable(1)
	is(t, nil, api.OK)
	is(t, list(silent("b")), api.OK)
	is(t, list(api.Told{Name: "b", Says: x}), api.ErrArg)
	is(t, list(given("b", x)), api.ErrSort)
}

// P11.1: what is provided may be any valid formula, in its plain form or not.
func TestRightFormulas(t *testing.T) {
	r := rand.New(rand.NewSource(1))
	for range 300 {
		is(t, list(given("a", samples.AnyFormula(r, 5))), api.OK)
	}
	is(t, list(tells(t, "a", "(P0 & ?x0 P0(x0))"), tells(t, "b", "x0 = f0"), tells(t, "a", "(P0 | P1)")), api.OK)
	is(t, list(given("a", samples.Sized(1000)), given("b", samples.Within(99, api.Not, 0, node(api.Atom, 0)))), api.OK)
}

// P11.1, R5: an element that provides nothing may have an empty list of Kids.
func TestRightNothing(t *testing.T) {
	is(t, list(api.Told{Says: api.Expr{Kids: []api.Expr{}}}), api.OK)
	is(t, list(api.Told{Says: api.Expr{Kids: make([]api.Expr, 0, 5)}}), api.OK)
	is(t, []api.Told{}, api.OK)
}

// P11.1: names are arbitrary, and may occur more than once.
func TestRightNames(t *testing.T) {
	long := strings.Repeat("n", 100000)
	is(t, list(silent(""), silent(""), silent(" "), silent("\n\x00\xFF"), silent(long), tells(t, long, "P0"), tells(t, "", "P0")), api.OK)
}

// P11.1: an element that provides nothing says nothing, be it valid or not.
func TestRightSays(t *testing.T) {
	p, x := node(api.Atom, 0), samples.Variable(0)
	for _, says := range []api.Expr{
		p, x, node(api.Var, 5), node(0, 1), node(0, -1), node(0, 0, x), node(0, 0, api.Expr{}), node(-1, 0), node(math.MinInt, 0),
		node(math.MaxInt, math.MaxInt), node(0, math.MinInt), samples.Looped(), samples.Sized(1001), samples.Doubled(60, p),
	} {
		is(t, list(api.Told{Name: "a", Says: says}), api.ErrArg)
		is(t, list(tells(t, "a", "P0"), silent("b"), api.Told{Name: "c", Says: says}), api.ErrArg)
	}
}

// P11.1, R1: what is provided, and is not valid.
func TestRightWrong(t *testing.T) {
	for _, w := range samples.Wrong() {
		is(t, list(given("a", w.Expr)), w.Code)
		is(t, list(silent("a"), tells(t, "b", "P0"), given("c", w.Expr)), w.Code)
	}
}

// P11.1: terms; one that is not valid has the error of expr.Right.
func TestRightTerms(t *testing.T) {
	for _, s := range []string{"x0", "x63", "f0", "f99(x0, f1(x1, x2), f2, x3)"} {
		is(t, list(tells(t, "a", s)), api.ErrSort)
	}
	is(t, list(given("a", samples.SizedTerm(1000))), api.ErrSort)
	is(t, list(given("a", samples.SizedTerm(1001))), api.ErrMany)
	is(t, list(given("a", samples.Variable(64))), api.ErrShape)
}

// P11.1: the greatest number of elements, and one more.
func TestRightMany(t *testing.T) {
	is(t, many(api.MaxTold), api.OK)
	is(t, many(api.MaxTold+1), api.ErrLong)
	is(t, many(1000), api.ErrLong)
	is(t, append(many(63), tells(t, "a", "P0")), api.OK)
	is(t, append(many(64), tells(t, "a", "P0")), api.ErrLong)
}

// P11.1, R3: too many elements come ahead of all else, then the first element with an error.
func TestRightOrder(t *testing.T) {
	p, x, many65 := node(api.Atom, 0), samples.Variable(0), many(65)
	wrong := []struct {
		element api.Told
		code    api.Errno
	}{
		{api.Told{Says: p}, api.ErrArg},
		{given("a", x), api.ErrSort},
		{given("b", node(api.Not, 0, x)), api.ErrShape},
		{given("c", samples.Sized(1001)), api.ErrMany},
		{given("d", samples.Within(100, api.Not, 0, p)), api.ErrDeep},
	}
	for _, first := range wrong {
		many65[0] = first.element
		is(t, many65, api.ErrLong)
		for _, second := range wrong {
			is(t, list(silent("a"), first.element, silent("a"), second.element), first.code)
		}
		is(t, append(many(63), first.element), first.code)
	}
}
