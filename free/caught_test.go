package free

import (
	"math"
	"math/rand"
	"testing"

	"organon/api"
)

// catches fails unless Caught is the given set, or returns fault, and FreeFor agrees with it.
func catches(t *testing.T, term api.Expr, x int, a api.Expr, want uint64, fault api.Errno) {
	t.Helper()
	if set, e := Caught(term, x, a); set != want || e != fault {
		t.Errorf("Caught(%s, %d, %s) = %b, %d; want %b, %d", text(term), x, text(a), set, e, want, fault)
	}
	if is, e := FreeFor(term, x, a); is != (want == 0 && fault == api.OK) || e != fault {
		t.Errorf("FreeFor(%s, %d, %s) = %v, %d; want %b, %d", text(term), x, text(a), is, e, want, fault)
	}
}

// P4.3: the rows of the examples.
func TestCaughtExamples(t *testing.T) {
	a := read(t, exampleText)
	catches(t, read(t, "f0(x1, x2)"), 0, a, 2, api.OK)
	catches(t, read(t, "x2"), 0, a, 0, api.OK)
	catches(t, read(t, "x1"), 1, a, 0, api.OK)
	catches(t, read(t, "P0"), 0, a, 0, api.ErrSort)
}

// P4.3
func TestCaught(t *testing.T) {
	for _, c := range []struct {
		term string
		x    int
		a    string
		want uint64
	}{
		{"x1", 0, "@x1 P0(x0)", bits(1)},
		{"x1", 0, "?x1 P0(x0)", bits(1)},
		{"x63", 62, "@x63 x62 = x0", bits(63)},
		{"x0", 63, "?x0 x0 = f1(f2(x63))", bits(0)},
		{"f0(f1(x1))", 0, "@x1 P0(f2(x0))", bits(1)},
		// Not variables of t.
		{"x2", 0, "@x1 P0(x0)", 0},
		{"f1", 0, "@x1 P0(x0)", 0},
		// x does not occur inside the quantifier, or not at all.
		{"x1", 0, "@x1 P0(x1)", 0},
		{"x1", 0, "(@x1 P0(x1) > P0(x0))", 0},
		{"x1", 0, "(P0(x0) > @x1 P0(x1))", 0},
		{"x1", 0, "P0(x0, x1)", 0},
		// x occurs there, but bound: by a quantifier further in, further out, or the same one.
		{"x1", 0, "@x1 @x0 P0(x0)", 0},
		{"x1", 0, "@x0 @x1 P0(x0)", 0},
		{"x0", 0, "@x0 P0(x0)", 0},
		{"f0(x0, x1)", 0, "@x0 P0(x0, x1)", 0},
		{"x1", 0, "@x1 (@x0 P0(x0) > ?x0 P0(x0))", 0},
		{"x1", 0, "@x0 (P0(x0) > @x1 P0(x0))", 0},
		// A free occurrence beside bound ones.
		{"x1", 0, "@x1 (@x0 P0(x0) > P0(x0))", bits(1)},
		{"x1", 0, "@x1 (P0(x0) & @x0 P0(x0))", bits(1)},
		{"x1", 0, "(@x0 @x1 P0(x0) | P0(x0))", 0},
		{"x1", 0, "(@x0 P0(x0) | @x1 P0(x0))", bits(1)},
		// Several quantifiers around one occurrence, or around several.
		{"f0(x1, x2, x3)", 0, "@x1 ?x2 @x4 P0(x0)", bits(1, 2)},
		{"f0(x1, x2, x3)", 0, "@x1 (?x2 P0(x1) > ?x3 P0(x0))", bits(1, 3)},
		{"f0(x1, x2, x3)", 0, "(@x1 P0(x0) & (?x2 x0 = x1 | @x3 !x3 = x0))", bits(1, 2, 3)},
		{"f0(x1, x2)", 0, "(@x1 P0(x0) > @x2 P0(x2))", bits(1)},
		{"f0(x1, x2)", 0, "@x1 @x1 @x2 @x1 P0(x0)", bits(1, 2)},
		{"x2", 0, "@x1 @x2 !P0(x0)", bits(2)},
		{"x1", 0, "@x1 @x2 !P0(x0)", bits(1)},
		// x itself among the variables of t is never caught, others are.
		{"f0(x0, x1)", 0, "@x1 P0(x0)", bits(1)},
		{"x0", 0, "@x1 P0(x0)", 0},
		// Nothing catches in a term.
		{"x1", 0, "x0", 0},
		{"x1", 0, "f0(x0, f1(x0, x1))", 0},
		{"x1", 0, "f0", 0},
	} {
		catches(t, read(t, c.term), c.x, read(t, c.a), c.want, api.OK)
	}
}

// P4.3: all other variables are caught, each by a quantifier of its own.
func TestCaughtAll(t *testing.T) {
	term := node(api.App, 0)
	for x := range 64 {
		term = node(api.App, 0, node(api.Var, x), term)
	}
	for x := range 64 {
		a := node(api.Atom, 0, node(api.Var, x))
		for y := range 64 {
			if y != x {
				a = node(api.Some-3*(y%2), y, a)
			}
		}
		catches(t, term, x, a, math.MaxUint64&^bits(x), api.OK)
		catches(t, term, x, node(api.All, x, a), 0, api.OK)
	}
}

// P4.3, R1: as many nodes, and as many nested in each other, as there may be.
func TestCaughtAtLimits(t *testing.T) {
	a := within(98, api.All, 1, node(api.Atom, 0, node(api.Var, 0)))
	catches(t, within(99, api.App, 0, node(api.Var, 1)), 0, a, bits(1), api.OK)
	many := node(api.And, 0, sized(996), node(api.Some, 1, node(api.Atom, 0, node(api.Var, 0))))
	catches(t, node(api.Var, 1), 0, many, bits(1), api.OK)
}

// caughtByWords is Caught by the words of P4.3.
func caughtByWords(term api.Expr, x int, a api.Expr) uint64 {
	vars := uint64(0)
	for _, s := range spots(term) {
		if s.node.Kind == api.Var {
			vars |= bits(s.node.Id)
		}
	}
	named := uint64(0)
	for _, s := range spots(a) {
		if !s.occurs(x) || s.isBound() {
			continue
		}
		for _, e := range s.around {
			if quantifies(e) {
				named |= bits(e.Id)
			}
		}
	}
	return vars & named
}

// put returns a with t in place of each free occurrence of x, whatever captures it.
func put(a api.Expr, x int, t api.Expr) api.Expr {
	if a.Kind == api.Var && a.Id == x {
		return t
	}
	if quantifies(a) && a.Id == x {
		return a
	}
	e := node(a.Kind, a.Id)
	for _, kid := range a.Kids {
		e.Kids = append(e.Kids, put(kid, x, t))
	}
	return e
}

// frees returns how many free occurrences of x are in e.
func frees(e api.Expr, x int) int {
	n := 0
	for _, s := range spots(e) {
		if s.occurs(x) && !s.isBound() {
			n++
		}
	}
	return n
}

// P4.3: what is caught is what has fewer free occurrences, after t was substituted, than t and a bring.
func TestCaughtBySubstitution(t *testing.T) {
	r := rand.New(rand.NewSource(43))
	some := 0
	for range 4000 {
		a, term, x := randomFormula(r, 2+r.Intn(5)), randomTerm(r, 3), randomVariable(r)
		want := uint64(0)
		for _, y := range few {
			brought := frees(a, x) * frees(term, y)
			if y != x {
				brought += frees(a, y)
			}
			if frees(put(a, x, term), y) < brought {
				want |= bits(y)
			}
		}
		if want != caughtByWords(term, x, a) {
			t.Fatalf("%s, %d, %s: %b, %b", text(term), x, text(a), want, caughtByWords(term, x, a))
		}
		catches(t, term, x, a, want, api.OK)
		if want != 0 {
			some++
		}
	}
	if some < 400 {
		t.Errorf("something is caught in only %d of the samples", some)
	}
}

// P4.5
func TestCaughtConsequences(t *testing.T) {
	r := rand.New(rand.NewSource(45))
	for _, a := range valid() {
		constant, other := node(api.App, 3, node(api.App, 4)), randomTerm(r, 3)
		for x := range api.MaxVar + 1 {
			if is, _ := NotFree(x, a); is {
				catches(t, other, x, a, 0, api.OK)
			}
			catches(t, node(api.Var, x), x, a, 0, api.OK)
			catches(t, constant, x, a, 0, api.OK)
		}
	}
}

// P4.3, R2, R3, R8: first the number, then t, then a, and then the sort of t.
func TestCaughtWrong(t *testing.T) {
	x, a := node(api.Var, 1), read(t, exampleText)
	for _, n := range outside {
		catches(t, x, n, a, 0, api.ErrArg)
		catches(t, a, n, a, 0, api.ErrArg)
		catches(t, api.Expr{}, n, looped(), 0, api.ErrArg)
	}
	eachWrong(func(e api.Expr, want api.Errno) {
		catches(t, e, 0, a, 0, want)
		catches(t, x, 0, e, 0, want)
		catches(t, a, 0, e, 0, want)
		catches(t, x, 64, e, 0, api.ErrArg)
		catches(t, e, -1, a, 0, api.ErrArg)
		eachWrong(func(other api.Expr, first api.Errno) {
			catches(t, other, 0, e, 0, first)
		})
	})
	for _, formula := range []string{"P0", "P0(x1)", "x1 = x1", "!P0", "(P0 > P0)", "(P0 & P0)", "(P0 | P0)", "@x1 P0", "?x1 P0"} {
		for _, where := range []string{exampleText, "x0", "f0", "P1"} {
			catches(t, read(t, formula), 0, read(t, where), 0, api.ErrSort)
		}
	}
}
