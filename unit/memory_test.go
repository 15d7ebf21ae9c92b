package unit

import (
	"slices"
	"testing"

	"organon/api"
	"organon/samples"
)

const memoryText = "cites a b c\nstates (P0(x0, f0(x1)) | P1)\n1 (P0(x0) & P1) : cite a\n2 P0(x0, x1) : gen 1 x3\n3 x0 = f0(x1) : detach 1 2\n"

// roomy returns u with spare capacity behind each of its lists, in which something is written.
func roomy(u api.Unit) api.Unit {
	r := api.Unit{Cites: append(slices.Clone(u.Cites), "behind"), States: samples.Roomy(u.States)}
	for _, step := range append(slices.Clone(u.Steps), api.Step{Cite: "behind"}) {
		step.Says = samples.Roomy(step.Says)
		r.Steps = append(r.Steps, step)
	}
	r.Cites, r.Steps = r.Cites[:len(u.Cites)], r.Steps[:len(u.Steps)]
	return r
}

// R4: Right and Print do not change their argument, nor what is behind its lists.
func TestArgumentsUntouched(t *testing.T) {
	u, _, _ := Parse(memoryText)
	r := roomy(u)
	for range 2 {
		if fault := Right(r); fault != api.OK {
			t.Fatal(fault)
		}
		prints(t, r, memoryText)
	}
	untouched := samples.Untouched(r.States, samples.Text(u.States))
	for i, step := range u.Steps {
		untouched = untouched && samples.Untouched(r.Steps[i].Says, samples.Text(step.Says))
	}
	if !same(r, u) || r.Cites[:4][3] != "behind" || r.Steps[:4][3].Cite != "behind" || !untouched {
		t.Errorf("%v", r)
	}
}

// formulas returns the formulas of units.
func formulas(units ...api.Unit) []api.Expr {
	var list []api.Expr
	for _, u := range units {
		list = append(list, u.States)
		for _, step := range u.Steps {
			list = append(list, step.Says)
		}
	}
	return list
}

// R4: results are new memory, also behind the ends of their lists.
func TestResultsAnew(t *testing.T) {
	one, _, _ := Parse(memoryText)
	two, _, _ := Parse(memoryText)
	told, _ := Tells(memoryText)
	again, _ := Tells(memoryText)
	steps := one.Steps[:cap(one.Steps)]
	for i := range steps {
		steps[i].By = -1
	}
	lists := [][]string{one.Cites, two.Cites, Cites(memoryText), Cites(memoryText)}
	for i, list := range lists {
		list = list[:cap(list)]
		for j := range list {
			list[j] = string(rune('p' + i))
		}
	}
	for i, list := range lists {
		if list = list[:cap(list)]; slices.ContainsFunc(list, func(s string) bool { return s != string(rune('p'+i)) }) {
			t.Errorf("%q", list)
		}
	}
	if two.Steps[0].By != api.ByCite || two.Steps[2].By != api.ByDetach {
		t.Error("two results share their steps")
	}
	if !samples.Apart(append(formulas(one, two), told, again)...) {
		t.Error("memory is shared")
	}
}

// R4, R6: what is done to results after a call does not show in later ones.
func TestNothingKept(t *testing.T) {
	for range 3 {
		u, fault, at := Parse(memoryText)
		if fault != api.OK || at != 0 {
			t.Fatal(fault, at)
		}
		prints(t, u, memoryText)
		tells(t, memoryText, must(t, "(!P0(x0, f0(x1)) > P1)"), "a", "b", "c")
		u.Cites[0], u.States.Kids[0], u.Steps[1] = "z", api.Expr{}, api.Step{}
		Cites(memoryText)[1] = "y"
		e, _ := Tells(memoryText)
		e.Kids[0] = api.Expr{}
		refuses(t, "cites a a", api.ErrTwice, 1)
	}
}
