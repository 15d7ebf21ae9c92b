package free

import (
	"testing"

	"organon/api"
	"organon/expr"
	"organon/samples"
)

// R4: no call changes its arguments, nor what is behind their lists.
func TestArgumentsUntouched(t *testing.T) {
	for _, e := range valid()[:200] {
		a, term := roomy(e), roomy(node(api.App, 0, node(api.Var, 1), node(api.Var, 62)))
		kept := samples.Text(e)
		Vars(a)
		Free(a)
		Bound(a)
		NotFree(1, a)
		Caught(term, 0, a)
		FreeFor(term, 0, a)
		Close(a)
		if !samples.Untouched(a, kept) || !samples.Untouched(term, "f0(x1, x62)") {
			t.Fatalf("%s is changed", kept)
		}
	}
}

// R4: the closure is new memory, also where nothing is free and where the formula shares its memory.
func TestCloseAnew(t *testing.T) {
	for _, s := range []string{"P0(x1, f0(x2), f1(x2))", "@x1 P0(x1, f0(x1))", "P0"} {
		part := roomy(read(t, s))
		if got, fault := Close(doubled(4, part)); fault != api.OK || !samples.Apart(got) {
			t.Errorf("Close of %s and itself: memory is shared, %d", s, fault)
		}
		first, _ := Close(part)
		second, fault := Close(part)
		if fault != api.OK || !samples.Apart(first, second, part) {
			t.Errorf("Close(%s): memory is shared, %d", s, fault)
		}
	}
}

// R4, R5, R6: what is done to a formula after the call does not show in its closure; nor does a list that is empty, not nil.
func TestCloseKeepsNothing(t *testing.T) {
	a := read(t, "(P0(x0) > P1)")
	a.Kids[1].Kids = []api.Expr{}
	got, _ := Close(a)
	a.Kids[0] = node(api.Atom, 9)
	if want := read(t, "@x0 (P0(x0) > P1)"); !expr.Same(got, want) {
		t.Errorf("%s", text(got))
	}
	got.Kids[0] = api.Expr{}
	if again, fault := Close(a); text(again) != "(P9 > P1)" || fault != api.OK {
		t.Errorf("%s, %d", text(again), fault)
	}
}
