package subst

import (
	"math/rand"
	"testing"

	"organon/api"
	"organon/expr"
	"organon/free"
	"organon/samples"
)

// eaches fails unless Each returns want, or the wanted error.
func eaches(t *testing.T, a api.Expr, l []api.Pair, want api.Expr, wanted api.Errno) {
	t.Helper()
	got, fault := Each(a, l)
	outcome(t, "Each("+text(a)+", ..)", got, fault, want, wanted)
}

// P5.3: the rows of the examples.
func TestEachExamples(t *testing.T) {
	eaches(t, read(t, "P0(x0, x1)"), pairs(t, 0, "x1", "x0"), read(t, "P0(x1, x0)"), api.OK)
	eaches(t, read(t, "P0"), append(pairs(t, 1, "f0"), pairs(t, 1, "f1")...), api.Expr{}, api.ErrArg)
}

// P5.3
func TestEach(t *testing.T) {
	for _, c := range []struct {
		a     string
		x     int
		terms []string
		want  string
	}{
		{"P0(x0, x1)", 0, nil, "P0(x0, x1)"},
		{"x0", 0, nil, "x0"},
		{"P0(x0, x1)", 2, []string{"f0", "f1"}, "P0(x0, x1)"},
		{"P0(x0, x1, x2)", 0, []string{"x1", "x2", "x0"}, "P0(x1, x2, x0)"},
		{"f0(x0, x1)", 0, []string{"f1(x0, x1)", "f2(x0, x1)"}, "f0(f1(x0, x1), f2(x0, x1))"},
		{"(P0(x62) > x63 = x62)", 62, []string{"x63", "x62"}, "(P0(x63) > x62 = x63)"},
		// A quantifier binds its own variable, and no other.
		{"@x0 P0(x0, x1)", 0, []string{"f0", "f1"}, "@x0 P0(x0, f1)"},
		{"@x1 P0(x0, x1)", 0, []string{"f0", "f1"}, "@x1 P0(f0, x1)"},
		{"(@x0 P0(x0, x1) > ?x1 P0(x0, x1))", 0, []string{"f0", "f1"}, "(@x0 P0(x0, f1) > ?x1 P0(f0, x1))"},
		{"@x0 (P0(x0) > @x1 P0(x0, x1, x2))", 0, []string{"f0", "f1", "f2"}, "@x0 (P0(x0) > @x1 P0(x0, x1, f2))"},
		// A term whose variable is not free captures nothing.
		{"@x0 P0(x0, x1)", 0, []string{"x0", "x2"}, "@x0 P0(x0, x2)"},
	} {
		eaches(t, read(t, c.a), pairs(t, c.x, c.terms...), read(t, c.want), api.OK)
	}
	// The order of the pairs makes no difference.
	l := pairs(t, 0, "x1", "x0")
	eaches(t, read(t, "P0(x0, x1)"), []api.Pair{l[1], l[0]}, read(t, "P0(x1, x0)"), api.OK)
}

// P5.3: all variables at once, each becoming the one before it.
func TestEachVariable(t *testing.T) {
	var l []api.Pair
	for x := range 64 {
		l = append(l, api.Pair{Var: x, For: node(api.Var, (x+63)%64)})
	}
	a := first(64)
	once, fault := Each(a, l)
	if fault != api.OK || expr.Same(once, a) {
		t.Fatalf("%s, %d", text(once), fault)
	}
	for range 63 {
		once, _ = Each(once, l)
	}
	if !expr.Same(once, a) {
		t.Errorf("after all turns: %s", text(once))
	}
	eaches(t, a, append(l, api.Pair{Var: 0, For: node(api.Var, 63)}), api.Expr{}, api.ErrArg)
}

// P5.3, R2, R3, R8: the numbers of all pairs, then a, then the terms in order, then their sorts, then capture, then size.
func TestEachWrong(t *testing.T) {
	a, formula := read(t, "@x1 P0(x0, x1, x2)"), read(t, "P0")
	for _, n := range samples.Outside() {
		eaches(t, a, []api.Pair{{Var: n, For: read(t, "f0")}}, api.Expr{}, api.ErrArg)
		eaches(t, a, append(pairs(t, 0, "x1"), api.Pair{Var: n, For: read(t, "f0")}), api.Expr{}, api.ErrArg)
		eaches(t, samples.Looped(), []api.Pair{{Var: 0}, {Var: n}}, api.Expr{}, api.ErrArg)
	}
	eaches(t, api.Expr{}, []api.Pair{{Var: 3}, {Var: 4}, {Var: 3}}, api.Expr{}, api.ErrArg)
	eaches(t, a, make([]api.Pair, 1<<20), api.Expr{}, api.ErrArg)
	eachWrong(func(e api.Expr, want api.Errno) {
		eaches(t, e, nil, api.Expr{}, want)
		eaches(t, e, []api.Pair{{Var: 0}}, api.Expr{}, want)
		eaches(t, e, []api.Pair{{Var: 0, For: formula}}, api.Expr{}, want)
		eaches(t, a, []api.Pair{{Var: 0, For: e}}, api.Expr{}, want)
		eaches(t, a, []api.Pair{{Var: 0, For: formula}, {Var: 1, For: e}}, api.Expr{}, want)
		eaches(t, a, append(pairs(t, 0, "x1", "x1"), api.Pair{Var: 9, For: e}), api.Expr{}, want)
		eachWrong(func(other api.Expr, _ api.Errno) {
			eaches(t, a, []api.Pair{{Var: 5, For: e}, {Var: 4, For: other}}, api.Expr{}, want)
		})
	})
	// A formula for a variable that is captured, or does not occur.
	eaches(t, a, []api.Pair{{Var: 0, For: read(t, "x1")}, {Var: 9, For: formula}}, api.Expr{}, api.ErrSort)
	// Either term is captured; in the last row the result would be too large, too.
	eaches(t, a, pairs(t, 0, "x1", "f0", "f0"), api.Expr{}, api.ErrCapture)
	eaches(t, a, pairs(t, 0, "f0", "f0", "x1"), api.Expr{}, api.ErrCapture)
	eaches(t, a, []api.Pair{{Var: 2, For: within(99, api.App, 0, node(api.Var, 9))}, {Var: 0, For: node(api.Var, 1)}}, api.Expr{}, api.ErrCapture)
}

// P5.3, R9: the result is at the limits, or beyond them, by several terms together.
func TestEachLimits(t *testing.T) {
	a := node(api.Imp, 0, node(api.Eq, 0, node(api.Var, 0), node(api.Var, 1)), sized(900))
	long := func(count int) api.Expr { return within(count-1, api.App, 0, node(api.App, 0)) }
	for _, c := range []struct {
		first, second int
		want          api.Errno
	}{
		{49, 49, api.OK}, {1, 97, api.OK}, {97, 1, api.OK}, {50, 49, api.ErrMany}, {1, 98, api.ErrMany}, {98, 1, api.ErrMany}, {100, 100, api.ErrMany},
	} {
		l := []api.Pair{{Var: 0, For: long(c.first)}, {Var: 1, For: long(c.second)}}
		eaches(t, a, l, byWords(a, l), c.want)
	}
	for _, c := range []struct {
		first, second int
		want          api.Errno
	}{
		{99, 99, api.OK}, {99, 100, api.ErrDeep}, {100, 99, api.ErrDeep}, {1, 100, api.ErrDeep}, {1, 99, api.OK},
	} {
		l := []api.Pair{{Var: 0, For: long(c.first)}, {Var: 1, For: long(c.second)}}
		eaches(t, a.Kids[0], l, byWords(a.Kids[0], l), c.want)
	}
}

// P5.3: as the words say it, for arbitrary arguments.
func TestEachByWords(t *testing.T) {
	r := rand.New(rand.NewSource(53))
	captured := 0
	for range 6000 {
		a := samples.AnyFormula(r, 2+r.Intn(5))
		var l []api.Pair
		want := api.OK
		for _, i := range r.Perm(len(samples.Few()))[:r.Intn(4)] {
			p := api.Pair{Var: samples.Few()[i], For: samples.AnyTerm(r, 3)}
			if is, _ := free.FreeFor(p.For, p.Var, a); !is {
				want = api.ErrCapture
			}
			l = append(l, p)
		}
		if want != api.OK {
			captured++
		}
		eaches(t, a, l, byWords(a, l), want)
	}
	if captured < 500 || captured > 5000 {
		t.Errorf("something is captured in %d of the samples", captured)
	}
}
