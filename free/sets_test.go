package free

import (
	"math"
	"testing"

	"organon/api"
)

// sets fails unless Vars, Free and Bound of e are the given sets.
func sets(t *testing.T, e api.Expr, vars, free, bound uint64) {
	t.Helper()
	v, fault1 := Vars(e)
	f, fault2 := Free(e)
	b, fault3 := Bound(e)
	if fault1 != api.OK || fault2 != api.OK || fault3 != api.OK {
		t.Errorf("%s: %d, %d, %d", text(e), fault1, fault2, fault3)
	}
	if v != vars || f != free || b != bound {
		t.Errorf("%s: %b, %b, %b; want %b, %b, %b", text(e), v, f, b, vars, free, bound)
	}
}

// P4.1: the row of the examples.
func TestSetsExamples(t *testing.T) {
	sets(t, read(t, exampleText), 3, 3, 2)
	if set, fault := Free(node(api.Var, 64)); set != 0 || fault != api.ErrShape {
		t.Errorf("%d, %d", set, fault)
	}
}

// P4.1
func TestSets(t *testing.T) {
	for _, c := range []struct {
		text              string
		vars, free, bound uint64
	}{
		{"x0", 1, 1, 0},
		{"x63", 1 << 63, 1 << 63, 0},
		{"f5", 0, 0, 0},
		{"f5(x1, f6(x2, x3), x1)", bits(1, 2, 3), bits(1, 2, 3), 0},
		{"P5", 0, 0, 0},
		{"P5(x1, f5(x63))", bits(1, 63), bits(1, 63), 0},
		{"x1 = f0(x2)", bits(1, 2), bits(1, 2), 0},
		{"f0(x2) = x1", bits(1, 2), bits(1, 2), 0},
		{"!P0(x3)", bits(3), bits(3), 0},
		{"(P0(x1) > P0(x2))", bits(1, 2), bits(1, 2), 0},
		{"(P0(x1) & P0(x2))", bits(1, 2), bits(1, 2), 0},
		{"(P0(x1) | P0(x2))", bits(1, 2), bits(1, 2), 0},
		// A quantifier of a variable that does not occur names it all the same.
		{"@x7 P0", bits(7), 0, bits(7)},
		{"?x7 P0(x8)", bits(7, 8), bits(8), bits(7)},
		{"@x1 P0(x1)", bits(1), 0, bits(1)},
		{"?x1 P0(x1)", bits(1), 0, bits(1)},
		{"@x63 P0(x63, x0)", bits(0, 63), bits(0), bits(63)},
		// The same variable free beside a quantifier of it, on either side.
		{"(?x1 P0(x1) | P0(x1))", bits(1), bits(1), bits(1)},
		{"(P0(x1) & @x1 P0(x1))", bits(1), bits(1), bits(1)},
		{"(@x1 P0(x1) > @x2 P0(x2))", bits(1, 2), 0, bits(1, 2)},
		{"(@x1 P0(x2) > @x2 P0(x1))", bits(1, 2), bits(1, 2), bits(1, 2)},
		// Nested quantifiers, of the same variable too: behind the inner one the outer one still holds.
		{"@x1 ?x2 P0(x1, x2, x3)", bits(1, 2, 3), bits(3), bits(1, 2)},
		{"@x1 @x1 P0(x1)", bits(1), 0, bits(1)},
		{"@x1 (@x1 P0(x1) > P0(x1))", bits(1), 0, bits(1)},
		{"@x1 (@x2 P0(x1) > P0(x2))", bits(1, 2), bits(2), bits(1, 2)},
		{"!@x1 !x1 = f0(x1, x2)", bits(1, 2), bits(2), bits(1)},
	} {
		sets(t, read(t, c.text), c.vars, c.free, c.bound)
	}
}

// P4.1: the numbers of symbols are not those of variables.
func TestSetsOfSymbols(t *testing.T) {
	for id := range api.MaxId + 1 {
		sets(t, node(api.App, id), 0, 0, 0)
		sets(t, node(api.Atom, id, node(api.App, id)), 0, 0, 0)
	}
}

// P4.1: each variable, free and bound, by both quantifiers.
func TestSetsOfEachVariable(t *testing.T) {
	for x := range api.MaxVar + 1 {
		atom, set := node(api.Atom, 0, node(api.Var, x)), uint64(1)<<x
		sets(t, atom, set, set, 0)
		sets(t, node(api.All, x, atom), set, 0, set)
		sets(t, node(api.Some, x, atom), set, 0, set)
		sets(t, node(api.Imp, 0, node(api.Some, x, atom), atom), set, set, set)
		other := (x + 1) % 64
		sets(t, node(api.All, other, atom), bits(x, other), set, bits(other))
	}
}

// P4.1: as many nodes, and as many nested in each other, as an expression may have; all variables at the same time.
func TestSetsAtLimits(t *testing.T) {
	x := node(api.Var, 5)
	sets(t, sized(1000), 0, 0, 0)
	sets(t, doubled(8, node(api.Eq, 0, x, x)).Kids[0], bits(5), bits(5), 0)
	sets(t, within(99, api.App, 0, x), bits(5), bits(5), 0)
	sets(t, within(98, api.All, 6, node(api.Atom, 0, x)), bits(5, 6), bits(5), bits(6))
	sets(t, within(98, api.Some, 5, node(api.Atom, 0, x)), bits(5), 0, bits(5))
	e := first(64)
	sets(t, e, math.MaxUint64, math.MaxUint64, 0)
	for x := range 64 {
		e = node(api.All, x, e)
		bound := uint64(math.MaxUint64) >> (63 - x)
		sets(t, e, math.MaxUint64, ^bound, bound)
	}
}

// P4.1, by its words.
func TestSetsByWords(t *testing.T) {
	for _, e := range valid() {
		vars, free, bound := uint64(0), uint64(0), uint64(0)
		for _, s := range spots(e) {
			switch {
			case quantifies(s.node):
				bound |= bits(s.node.Id)
				vars |= bits(s.node.Id)
			case s.node.Kind == api.Var:
				vars |= bits(s.node.Id)
				if !s.isBound() {
					free |= bits(s.node.Id)
				}
			}
		}
		sets(t, e, vars, free, bound)
	}
}

// P4.1, R1, R2, R8
func TestSetsWrong(t *testing.T) {
	eachWrong(func(e api.Expr, want api.Errno) {
		for name, call := range map[string]func(api.Expr) (uint64, api.Errno){"Vars": Vars, "Free": Free, "Bound": Bound} {
			if set, fault := call(e); set != 0 || fault != want {
				t.Errorf("%s: %d, %d; want %d", name, set, fault, want)
			}
		}
	})
}

// P4.2: the row of the examples.
func TestNotFreeExamples(t *testing.T) {
	for _, c := range []struct {
		x     int
		want  bool
		fault api.Errno
	}{
		{0, false, api.OK}, {2, true, api.OK}, {64, false, api.ErrArg},
	} {
		if is, fault := NotFree(c.x, read(t, exampleText)); is != c.want || fault != c.fault {
			t.Errorf("NotFree(%d, a) = %v, %d", c.x, is, fault)
		}
	}
}

// P4.2: each variable.
func TestNotFree(t *testing.T) {
	for _, e := range append(valid(), read(t, exampleText), read(t, "@x0 P0(x0)"), read(t, "f0(x0, x63)")) {
		set, _ := Free(e)
		for x := range api.MaxVar + 1 {
			if is, fault := NotFree(x, e); is != (set>>x&1 == 0) || fault != api.OK {
				t.Fatalf("NotFree(%d, %s) = %v, %d", x, text(e), is, fault)
			}
		}
	}
}

// P4.2, R2, R8: a number that no variable has comes ahead of what is wrong with e.
func TestNotFreeWrong(t *testing.T) {
	for _, x := range outside {
		if is, fault := NotFree(x, read(t, exampleText)); is || fault != api.ErrArg {
			t.Errorf("NotFree(%d, a) = %v, %d", x, is, fault)
		}
	}
	eachWrong(func(e api.Expr, want api.Errno) {
		for _, x := range []int{0, 1, 63} {
			if is, fault := NotFree(x, e); is || fault != want {
				t.Errorf("NotFree(%d, wrong): %v, %d; want %d", x, is, fault, want)
			}
		}
		if is, fault := NotFree(64, e); is || fault != api.ErrArg {
			t.Errorf("NotFree(64, wrong): %v, %d", is, fault)
		}
	})
}
