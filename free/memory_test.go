package free

import (
	"testing"

	"organon/api"
	"organon/expr"
)

// roomy returns e with spare capacity behind each list of Kids, in which something is written.
func roomy(e api.Expr) api.Expr {
	kids := make([]api.Expr, 0, len(e.Kids)+1)
	for _, kid := range e.Kids {
		kids = append(kids, roomy(kid))
	}
	kids[:cap(kids)][len(kids)] = node(77, 77)
	return node(e.Kind, e.Id, kids...)
}

// untouched reports whether e, which roomy made, still has what was written behind each list.
func untouched(e api.Expr) bool {
	if cap(e.Kids) != len(e.Kids)+1 || e.Kids[:cap(e.Kids)][len(e.Kids)].Kind != 77 {
		return false
	}
	for _, kid := range e.Kids {
		if !untouched(kid) {
			return false
		}
	}
	return true
}

// lists notes the memory of all lists in e, and reports whether some of it was noted already.
func lists(noted map[*api.Expr]bool, e api.Expr) bool {
	shared := false
	whole := e.Kids[:cap(e.Kids)]
	for i := range whole {
		shared = shared || noted[&whole[i]]
		noted[&whole[i]] = true
	}
	for _, kid := range e.Kids {
		shared = lists(noted, kid) || shared
	}
	return shared
}

// R4: no call changes its arguments, nor what is behind their lists.
func TestArgumentsUntouched(t *testing.T) {
	for _, e := range samples()[:200] {
		a, term := roomy(e), roomy(node(api.App, 0, node(api.Var, 1), node(api.Var, 62)))
		kept := text(e)
		Vars(a)
		Free(a)
		Bound(a)
		NotFree(1, a)
		Caught(term, 0, a)
		FreeFor(term, 0, a)
		Close(a)
		if !untouched(a) || text(a) != kept || !untouched(term) || text(term) != "f0(x1, x62)" {
			t.Fatalf("%s is changed", kept)
		}
	}
}

// R4: the closure is new memory, also where nothing is free and where the formula shares its memory.
func TestCloseAnew(t *testing.T) {
	atom := roomy(read(t, "P0(x1, f0(x2), f1(x2))"))
	closed := roomy(read(t, "@x1 P0(x1, f0(x1))"))
	for _, a := range []api.Expr{atom, closed, node(api.Imp, 0, atom, atom), doubled(4, closed), roomy(read(t, "P0"))} {
		noted := map[*api.Expr]bool{}
		lists(noted, a)
		for range 2 {
			got, fault := Close(a)
			if fault != api.OK || lists(noted, got) {
				t.Fatalf("Close(%s): memory is shared, %d", text(a), fault)
			}
		}
	}
}

// R4, R5, R6: what is done to a formula after the call does not show in its closure; nor does a list that is empty, not nil.
func TestCloseKeepsNothing(t *testing.T) {
	a := read(t, "(P0(x0) > P1)")
	a.Kids[1].Kids = []api.Expr{}
	got, _ := Close(a)
	a.Kids[0] = node(api.Atom, 9)
	if want := read(t, "@x0 (P0(x0) > P1)"); !expr.Same(got, want) {
		t.Errorf("%s", text(got))
	}
	got.Kids[0] = api.Expr{}
	if again, fault := Close(a); text(again) != "(P9 > P1)" || fault != api.OK {
		t.Errorf("%s, %d", text(again), fault)
	}
}
