package schema

import (
	"math/rand"
	"testing"

	"organon/api"
	"organon/expr"
	"organon/samples"
)

// P7.5: what Make returns is an instance, and Make of its Parts returns it again.
func TestMakeOfParts(t *testing.T) {
	r := rand.New(rand.NewSource(751))
	for _, k := range numbers() {
		made := 0
		for range 2000 {
			p := anyParts(r, k)
			e, fault := Make(k, p)
			if fault != api.OK {
				continue
			}
			made++
			is(t, k, e, true, api.OK)
			again, fault := Parts(k, e)
			if fault != api.OK {
				t.Fatalf("Parts(%d, %s): %d", k, text(e), fault)
			}
			makes(t, k, again, e, api.OK)
			// But for the term of schema 4, the parts are those that were given.
			p.List, again.List = given(k, p.List), given(k, again.List)
			if !equalParts(p, again) {
				t.Errorf("schema %d: %q become %q", k, told(p), told(again))
			}
		}
		if made < 500 {
			t.Errorf("schema %d: only %d instances", k, made)
		}
	}
}

// given returns those of the parts that only the given ones can be.
func given(k int, list []api.Expr) []api.Expr {
	if k == 4 {
		return list[:1]
	}
	return list
}

// P7.5: whatever is an instance, Make of its Parts returns it.
func TestPartsRemade(t *testing.T) {
	r := rand.New(rand.NewSource(752))
	remade := 0
	for range 4000 {
		k := 1 + r.Intn(7)
		e := altered(r, byTable(k, anyParts(r, k)))
		list, fault := Which(e)
		if fault != api.OK {
			t.Fatalf("Which(%s): %d", text(e), fault)
		}
		for _, of := range list {
			p, fault := Parts(of, e)
			if fault != api.OK {
				t.Errorf("Parts(%d, %s): %d", of, text(e), fault)
			}
			makes(t, of, p, e, api.OK)
			remade++
		}
	}
	if remade < 500 {
		t.Errorf("only %d instances", remade)
	}
}

// P7.5: Swapped holds for a and a, and backwards if it holds.
func TestSwappedBackwards(t *testing.T) {
	r := rand.New(rand.NewSource(753))
	back := 0
	for range 6000 {
		a, term, other := anySwap(r)
		swaps(t, a, a, term, other, true, api.OK)
		b := someSwapped(r, a, term, other)
		yes, fault := Swapped(a, b, term, other)
		swaps(t, b, a, other, term, yes, fault)
		if yes && !expr.Same(a, b) {
			back++
		}
	}
	for _, e := range samples.All(r, 500) {
		if expr.IsFormula(e) {
			swaps(t, e, e, samples.AnyTerm(r, 3), samples.AnyTerm(r, 3), true, api.OK)
		}
	}
	if back < 500 {
		t.Errorf("only %d samples are swapped with a change", back)
	}
}
