package unit

import (
	"math"
	"slices"
	"testing"

	"organon/api"
	"organon/expr"
	"organon/samples"
)

// rights fails unless Right(u), and the error of Print(u), are want.
func rights(t *testing.T, what string, u api.Unit, want api.Errno) {
	t.Helper()
	if fault := Right(u); fault != want {
		t.Errorf("%s: %d; want %d", what, fault, want)
	}
	if s, fault := Print(u); fault != want || want != api.OK && s != "" {
		t.Errorf("%s is printed as %q, %d; want %d", what, s, fault, want)
	}
}

// P9.2: the cited names.
func TestRightCites(t *testing.T) {
	long := append(names(7), "abcdefghijkl")
	for count := range 9 {
		rights(t, "names", citing(names(count)...), api.OK)
		rights(t, "names", citing(long[8-count:]...), api.OK)
	}
	rights(t, "an empty list", citing([]string{}...), api.OK)
	for _, count := range []int{9, 10, 100, 100000} {
		rights(t, "too many names", citing(names(count)...), api.ErrLong)
	}
	for _, bad := range badNames() {
		for at := range 9 {
			rights(t, bad, citing(slices.Insert(names(8), at, bad)...), api.ErrName)
		}
		rights(t, bad, citing(slices.Insert(names(20), 9, bad)...), api.ErrLong)
		rights(t, bad+" twice", citing(bad, bad), api.ErrName)
	}
	for first := range 8 {
		for at := first + 1; at <= 8; at++ {
			list := slices.Insert(names(8), at, names(8)[first])
			rights(t, "a name twice", citing(list...), api.ErrTwice)
			rights(t, "a name twice", citing(list[:at+1]...), api.ErrTwice)
		}
		rights(t, "a name twice", citing(append(names(9), names(8)[first])...), api.ErrLong)
	}
	rights(t, "prefixes", citing("a", "ab", "abc", "a-", "a0", "b"), api.OK)
	// The first name of the list that may not stand there decides.
	rights(t, "twice, then no name", citing("a", "a", "A"), api.ErrTwice)
	rights(t, "no name, then twice", citing("a", "A", "a"), api.ErrName)
}

// unwritable returns expressions that can't be written, or may not be, and the error.
func unwritable() []samples.Fault {
	p, deep := node(api.Atom, 0), within(30, api.All, 0, node(api.Atom, 0))
	list := []samples.Fault{
		{Expr: sized(301), Code: api.ErrMany}, {Expr: sized(1000), Code: api.ErrMany},
		{Expr: deep, Code: api.ErrDeep}, {Expr: within(99, api.Not, 0, p), Code: api.ErrDeep},
		{Expr: node(api.Atom, 0, within(29, api.App, 0, node(api.App, 0))), Code: api.ErrDeep},
		{Expr: node(api.And, 0, deep, sized(268)), Code: api.ErrDeep},
		{Expr: node(api.And, 0, deep, sized(269)), Code: api.ErrMany},
		{Expr: samples.Variable(0), Code: api.ErrSort}, {Expr: node(api.App, 0), Code: api.ErrSort},
		{Expr: samples.SizedTerm(1000), Code: api.ErrSort},
		{Expr: within(99, api.App, 0, node(api.App, 0)), Code: api.ErrSort},
	}
	return append(list, samples.Wrong()...)
}

// writable returns formulas that can be written, at the limits.
func writable() []api.Expr {
	list := []api.Expr{
		sized(1), sized(299), sized(300), within(29, api.Some, 63, node(api.Atom, 0)),
		node(api.Atom, 0, within(28, api.App, 0, node(api.App, 0))),
		node(api.Or, 0, within(28, api.Not, 0, node(api.Atom, 0)), sized(270)),
	}
	for _, s := range []string{
		"P0", "P99(x0, f0(x1))", "x0 = f99", "!P0", "(P0 > P1)", "(P0 & P1)", "(P0 | P1)", "@x0 P0(x0)", "?x63 P0(x63)",
	} {
		list = append(list, samples.Read(s))
	}
	return list
}

// P9.2: the formula that is stated and those that are said.
func TestRightFormulas(t *testing.T) {
	for _, e := range writable() {
		if fault := expr.Right(e); fault != api.OK || expr.Size(e) > 300 || expr.Depth(e) > 30 {
			t.Errorf("%d, %d nodes, depth %d", fault, expr.Size(e), expr.Depth(e))
		}
		rights(t, samples.Short(e), stating(e), api.OK)
		rights(t, samples.Short(e), saying(1, e), api.OK)
		rights(t, samples.Short(e), saying(60, e), api.OK)
	}
	for _, w := range unwritable() {
		rights(t, samples.Short(w.Expr), stating(w.Expr), w.Code)
		rights(t, samples.Short(w.Expr), saying(1, w.Expr), w.Code)
		rights(t, samples.Short(w.Expr), saying(60, w.Expr), w.Code)
	}
}

// P9.2: how many steps there are.
func TestRightSteps(t *testing.T) {
	rights(t, "nothing", api.Unit{}, api.ErrShape)
	for _, count := range []int{1, 2, 59, 60} {
		rights(t, "steps", small(count), api.OK)
	}
	for _, count := range []int{61, 62, 100000} {
		rights(t, "too many steps", small(count), api.ErrLong)
	}
	u := small(1)
	u.Steps = nil
	rights(t, "no steps", u, api.ErrLine)
	u.Steps = []api.Step{}
	rights(t, "no steps", u, api.ErrLine)
	for _, wrong := range []api.Step{{}, {Says: node(api.Atom, 0), By: api.ByCite}, axiom(samples.Variable(0), 1)} {
		u = small(61)
		u.Steps[60] = wrong
		rights(t, "a wrong step 61", u, api.ErrLong)
	}
}

// justifications returns the fields of steps that are justified as they may be.
func justifications() []api.Step {
	return []api.Step{
		{By: api.ByAxiom, A: 0}, {By: api.ByAxiom, A: 7}, {By: api.ByAxiom, A: 999999999},
		{By: api.ByDetach}, {By: api.ByDetach, A: 1, B: 2}, {By: api.ByDetach, A: 999999999, B: 999999999},
		{By: api.ByGen}, {By: api.ByGen, A: 1, B: 5}, {By: api.ByGen, A: 999999999, B: 63},
		{By: api.ByCite, Cite: "a"}, {By: api.ByCite, Cite: "abcdefghijkl"}, {By: api.ByCite, Cite: "z-9"},
	}
}

// unjustified returns the fields of steps that are not justified as they may be.
func unjustified() []api.Step {
	list := []api.Step{
		{}, {A: 1}, {By: api.ByAssume}, {By: api.ByAssume, A: 1}, {By: 6, A: 1}, {By: -1, A: 1}, {By: math.MaxInt}, {By: math.MinInt},
		{By: api.ByAxiom, A: 1, B: 1}, {By: api.ByAxiom, A: 1, B: -1}, {By: api.ByAxiom, A: 1, Cite: "a"},
		{By: api.ByDetach, A: 1, B: 2, Cite: "a"}, {By: api.ByGen, A: 1, B: 2, Cite: "a"}, {By: api.ByGen, A: 1, B: 2, Cite: "A"},
		{By: api.ByCite, Cite: "a", A: 1}, {By: api.ByCite, Cite: "a", B: 1}, {By: api.ByCite, Cite: "a", A: -1},
		{By: api.ByCite, A: 1}, {By: api.ByCite, Cite: "A", B: 1},
	}
	for _, n := range []int{-1, 1000000000, 1 << 32, math.MaxInt, math.MinInt} {
		list = append(list,
			api.Step{By: api.ByAxiom, A: n},
			api.Step{By: api.ByDetach, A: n, B: 1}, api.Step{By: api.ByDetach, A: 1, B: n},
			api.Step{By: api.ByGen, A: n})
	}
	for _, x := range samples.Outside() {
		list = append(list, api.Step{By: api.ByGen, A: 1, B: x})
	}
	return list
}

// P9.2: how a step is justified, then the name that it cites, then what it says.
func TestRightJustifications(t *testing.T) {
	formulas := append(unwritable(), samples.Fault{Expr: node(api.Atom, 0), Code: api.OK})
	for _, at := range []int{0, 1, 59} {
		for _, f := range formulas {
			u := small(60)
			u.Steps = u.Steps[:max(at+1, 2)]
			try := func(step api.Step, want api.Errno) {
				t.Helper()
				step.Says = f.Expr
				u.Steps[at] = step
				rights(t, "a step", u, want)
			}
			for _, step := range justifications() {
				try(step, f.Code)
			}
			for _, step := range unjustified() {
				try(step, api.ErrLine)
			}
			for _, bad := range badNames() {
				try(api.Step{By: api.ByCite, Cite: bad}, api.ErrName)
			}
		}
	}
}

// P9.2, R3: the cited names, then the statement, then the steps, one after the other.
func TestRightOrder(t *testing.T) {
	wrong := axiom(sized(301), 1)
	for _, f := range unwritable() {
		u := citing("a", "a")
		u.States, u.Steps = f.Expr, []api.Step{wrong}
		rights(t, "names first", u, api.ErrTwice)
		u.Cites = []string{"a"}
		rights(t, "then the statement", u, f.Code)
		u.Steps = nil
		rights(t, "then the statement", u, f.Code)
		u.Steps = small(61).Steps
		rights(t, "then the statement", u, f.Code)
	}
	u := small(3)
	u.Steps[1], u.Steps[2] = wrong, api.Step{}
	rights(t, "the first wrong step", u, api.ErrMany)
	u.Steps[1], u.Steps[2] = u.Steps[2], u.Steps[1]
	rights(t, "the first wrong step", u, api.ErrLine)
	u = small(100)
	u.Steps[59] = wrong
	rights(t, "the first wrong step", u, api.ErrMany)
}
