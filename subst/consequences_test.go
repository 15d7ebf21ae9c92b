package subst

import (
	"math/rand"
	"testing"

	"organon/api"
	"organon/expr"
	"organon/free"
	"organon/samples"
)

// P5.6: of two expressions that have a Canon, those are alpha equivalent that have the same one.
func TestCanonDecides(t *testing.T) {
	r := rand.New(rand.NewSource(561))
	same := 0
	for range 10000 {
		a := samples.AnyFormula(r, 2+r.Intn(3))
		b := altered(r, a)
		first, fault1 := Canon(a)
		second, fault2 := Canon(b)
		if fault1 != api.OK || fault2 != api.OK {
			t.Fatalf("%s, %s: %d, %d", text(a), text(b), fault1, fault2)
		}
		alphas(t, a, b, expr.Same(first, second), api.OK)
		if expr.Same(first, second) {
			same++
		}
	}
	if same < 1000 {
		t.Errorf("only %d of the samples are equivalent", same)
	}
}

// P5.6: Canon(a) is alpha equivalent to a, and is its own Canon.
func TestCanonIsEquivalent(t *testing.T) {
	for _, a := range valid() {
		canon, fault := Canon(a)
		if fault == api.ErrVars && expr.Depth(a) > 64 {
			continue
		}
		alphas(t, a, canon, true, fault)
		canons(t, canon, canon, api.OK)
	}
}

// P5.6: Put and Safe agree up to alpha equivalence; what is not free is not replaced; the variables of t become free.
func TestPutConsequences(t *testing.T) {
	r := rand.New(rand.NewSource(562))
	both := 0
	for range 6000 {
		a, x, term := samples.AnyFormula(r, 2+r.Intn(5)), samples.AnyVariable(r), samples.AnyTerm(r, 3)
		puts(t, a, x, node(api.Var, x), a, api.OK)
		safes(t, a, x, node(api.Var, x), a, api.OK)
		if is, _ := free.NotFree(x, a); is {
			puts(t, a, x, term, a, api.OK)
			safes(t, a, x, term, a, api.OK)
			continue
		}
		safe, fault := Safe(a, x, term)
		if fault != api.OK {
			t.Fatalf("Safe(%s, %d, %s): %d", text(a), x, text(term), fault)
		}
		put, fault := Put(a, x, term)
		list := []api.Expr{safe}
		if fault == api.OK {
			both++
			alphas(t, put, safe, true, api.OK)
			list = append(list, put)
		}
		vars, _ := free.Vars(term)
		for _, e := range list {
			open, _ := free.Free(e)
			if vars&^open != 0 || open>>x&1 != vars>>x&1 {
				t.Errorf("%s for x%d in %s: %s", text(term), x, text(a), text(e))
			}
		}
	}
	if both < 1000 {
		t.Errorf("Put and Safe both return something for only %d of the samples", both)
	}
}

// P5.6: the order in which equivalent formulas get a term makes no difference to Safe, up to equivalence.
func TestSafeOfEquivalent(t *testing.T) {
	r := rand.New(rand.NewSource(563))
	for range 4000 {
		a, x, term := samples.AnyFormula(r, 2+r.Intn(4)), samples.AnyVariable(r), samples.AnyTerm(r, 3)
		canon, _ := Canon(a)
		first, fault1 := Safe(a, x, term)
		second, fault2 := Safe(canon, x, term)
		if fault1 != api.OK || fault2 != api.OK {
			t.Fatalf("%s: %d, %d", text(a), fault1, fault2)
		}
		alphas(t, first, second, true, api.OK)
	}
}

// P5.7
func TestSubstitutionLemma(t *testing.T) {
	r := rand.New(rand.NewSource(57))
	all := 0
	for range 20000 {
		a, term, u := samples.AnyFormula(r, 2+r.Intn(4)), samples.AnyTerm(r, 3), samples.AnyTerm(r, 3)
		x, y := samples.AnyVariable(r), samples.AnyVariable(r)
		if is, _ := free.NotFree(x, u); x == y || !is {
			continue
		}
		one, fault1 := Put(a, x, term)
		one, fault2 := Put(one, y, u)
		within, fault3 := Put(term, y, u)
		two, fault4 := Put(a, y, u)
		two, fault5 := Put(two, x, within)
		if fault1 != api.OK || fault2 != api.OK || fault3 != api.OK || fault4 != api.OK || fault5 != api.OK {
			continue
		}
		all++
		if !expr.Same(one, two) {
			t.Errorf("%s, x%d: %s, x%d: %s: %s, %s", text(a), x, text(term), y, text(u), text(one), text(two))
		}
	}
	if all < 2000 {
		t.Errorf("all calls return something for only %d of the samples", all)
	}
}
