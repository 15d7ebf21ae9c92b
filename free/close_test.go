package free

import (
	"testing"

	"organon/api"
	"organon/expr"
)

// closes fails unless Close(a) is want, or returns fault.
func closes(t *testing.T, a, want api.Expr, fault api.Errno) {
	t.Helper()
	got, e := Close(a)
	if e != fault || fault == api.OK && !expr.Same(got, want) || fault != api.OK && !isZero(got) {
		t.Errorf("Close(%s) = %s, %d; want %s, %d", text(a), text(got), e, text(want), fault)
	}
}

// P4.4: the row of the examples.
func TestCloseExamples(t *testing.T) {
	closes(t, read(t, exampleText), read(t, "@x0 @x1 (@x1 P0(x0, x1) > P1(x1))"), api.OK)
	closes(t, read(t, "P0"), read(t, "P0"), api.OK)
	closes(t, read(t, "x0"), api.Expr{}, api.ErrSort)
}

// P4.4
func TestClose(t *testing.T) {
	for a, want := range map[string]string{
		"P0(x0)":                   "@x0 P0(x0)",
		"x63 = x0":                 "@x0 @x63 x63 = x0",
		"P0(x2, x10, x1, x2)":      "@x1 @x2 @x10 P0(x2, x10, x1, x2)",
		"@x0 P0(x0)":               "@x0 P0(x0)",
		"?x0 P0(x0)":               "?x0 P0(x0)",
		"?x0 P0(x0, x5)":           "@x5 ?x0 P0(x0, x5)",
		"@x5 P0(x6)":               "@x6 @x5 P0(x6)",
		"@x6 P0(x5)":               "@x5 @x6 P0(x5)",
		"@x7 P0":                   "@x7 P0",
		"(P0(x3) & !?x3 P1(x3))":   "@x3 (P0(x3) & !?x3 P1(x3))",
		"(P0(x3) | f0(x1) = f1)":   "@x1 @x3 (P0(x3) | f0(x1) = f1)",
		"(@x1 P0(x2) > P0(x1))":    "@x1 @x2 (@x1 P0(x2) > P0(x1))",
		"!P0(f0(x40, f1(x9)))":     "@x9 @x40 !P0(f0(x40, f1(x9)))",
		"@x1 (@x2 P0(x1) > P0)":    "@x1 (@x2 P0(x1) > P0)",
		"@x1 (P0(x2) & ?x2 P0)":    "@x2 @x1 (P0(x2) & ?x2 P0)",
		"f5(f6) = f7":              "f5(f6) = f7",
		"(P0(x1) > (P1 > P0(x0)))": "@x0 @x1 (P0(x1) > (P1 > P0(x0)))",
	} {
		closes(t, read(t, a), read(t, want), api.OK)
	}
}

// P4.4: each variable alone, and all of them.
func TestCloseOfEachVariable(t *testing.T) {
	for x := range 64 {
		a := node(api.Atom, 0, node(api.Var, x))
		closes(t, a, node(api.All, x, a), api.OK)
	}
	want := first(64)
	for x := 63; x >= 0; x-- {
		want = node(api.All, x, want)
	}
	closes(t, first(64), want, api.OK)
}

// P4.4, R9: the result has MaxNodes nodes, or one more; MaxDepth of them are nested in each other, or one more.
func TestCloseLimits(t *testing.T) {
	open := node(api.Atom, 0, node(api.Var, 7))
	joined := func(a, b api.Expr) api.Expr { return node(api.Imp, 0, a, b) }
	all := first(64)
	size, depth := expr.Size(all), expr.Depth(all)
	for _, c := range []struct {
		name string
		a    api.Expr
		want api.Errno
	}{
		{"1000 nodes, none free", sized(1000), api.OK},
		{"1000 nodes, all bound", joined(sized(996), node(api.All, 7, open)), api.OK},
		{"999 nodes, one free", joined(sized(996), open), api.OK},
		{"1000 nodes, one free", joined(sized(997), open), api.ErrMany},
		{"936 nodes, 64 free", joined(sized(935-size), all), api.OK},
		{"937 nodes, 64 free", joined(sized(936-size), all), api.ErrMany},
		{"1000 nodes, 64 free", joined(sized(999-size), all), api.ErrMany},
		{"depth 100, none free", within(99, api.Not, 0, node(api.Atom, 0)), api.OK},
		{"depth 100, all bound", within(98, api.All, 7, open), api.OK},
		{"depth 99, one free", within(97, api.Not, 0, open), api.OK},
		{"depth 100, one free", within(98, api.Not, 0, open), api.ErrDeep},
		{"depth 36, 64 free", within(36-depth, api.Not, 0, all), api.OK},
		{"depth 37, 64 free", within(37-depth, api.Not, 0, all), api.ErrDeep},
		{"the free one is not the deepest one", joined(open, within(98, api.Not, 0, node(api.Atom, 0))), api.ErrDeep},
		{"too many and too deep", joined(sized(900), within(97, api.Not, 0, open)), api.ErrMany},
	} {
		if fault := expr.Right(c.a); fault != api.OK {
			t.Errorf("%s: %d", c.name, fault)
		}
		got, fault := Close(c.a)
		if fault != c.want || fault == api.OK && expr.Right(got) != api.OK || fault != api.OK && !isZero(got) {
			t.Errorf("%s: %d; want %d", c.name, fault, c.want)
		}
	}
}

// P4.4, R1, R2, R8: a term that is not valid has the error of expr.Right, too.
func TestCloseWrong(t *testing.T) {
	eachWrong(func(e api.Expr, want api.Errno) {
		closes(t, e, api.Expr{}, want)
	})
	for _, term := range []string{"x0", "x63", "f0", "f0(x1, f1(x2))"} {
		closes(t, read(t, term), api.Expr{}, api.ErrSort)
	}
	closes(t, within(99, api.App, 0, node(api.Var, 0)), api.Expr{}, api.ErrSort)
}

// P4.5: the closure has no free variables, and is its own closure.
func TestCloseConsequences(t *testing.T) {
	for _, a := range valid() {
		closed, fault := Close(a)
		if fault != api.OK {
			if expr.IsFormula(a) || fault != api.ErrSort {
				t.Errorf("Close(%s): %d", text(a), fault)
			}
			continue
		}
		if set, fault := Free(closed); set != 0 || fault != api.OK {
			t.Errorf("Free(%s) = %b, %d", text(closed), set, fault)
		}
		closes(t, closed, closed, api.OK)
		before, _ := Free(a)
		for x := range 64 {
			if before>>x&1 == 1 {
				if closed.Kind != api.All || closed.Id != x {
					t.Fatalf("Close(%s): a quantifier of %d is missing", text(a), x)
				}
				closed = closed.Kids[0]
			}
		}
		if !expr.Same(closed, a) {
			t.Errorf("Close(%s): it has %s within", text(a), text(closed))
		}
	}
}
