package schema

import (
	"slices"
	"testing"

	"organon/api"
	"organon/expr"
	"organon/samples"
)

// R4: no call changes its arguments, nor what is behind their lists.
func TestArgumentsUntouched(t *testing.T) {
	for _, s := range instances() {
		p, e := s.read(t)
		var texts []string
		list := make([]api.Expr, 0, len(p.List)+1)
		for _, part := range p.List {
			texts = append(texts, samples.Text(part))
			list = append(list, roomy(part))
		}
		list[:cap(list)][len(list)] = node(77, 77)
		e = roomy(e)
		for _, k := range numbers() {
			Make(k, api.Parts{List: list, Var: s.x})
			Parts(k, e)
			Is(k, e)
		}
		Which(e)
		if s.k == 7 {
			Swapped(list[2], list[3], list[0], list[1])
		}
		for i, part := range list {
			if !samples.Untouched(part, texts[i]) {
				t.Errorf("part %s is changed", texts[i])
			}
		}
		if list[:cap(list)][len(list)].Kind != 77 || !samples.Untouched(e, s.instance) {
			t.Errorf("%s, or the list of its parts, is changed", s.instance)
		}
	}
}

// R4: results are new memory: each copy of a part in an instance, each part, and those of two calls.
func TestResultsAnew(t *testing.T) {
	for _, s := range instances() {
		p, e := s.read(t)
		one, _ := Make(s.k, p)
		two, _ := Make(s.k, p)
		first, _ := Parts(s.k, e)
		second, _ := Parts(s.k, e)
		all := slices.Concat([]api.Expr{one, two, e}, p.List, first.List, second.List)
		if !samples.Apart(all...) {
			t.Errorf("%s: memory is shared", s.instance)
		}
		list, other := first.List[:cap(first.List)], second.List[:cap(second.List)]
		list[len(list)-1], other[len(other)-1] = node(1, 1), node(2, 2)
		if list[len(list)-1].Kind != 1 {
			t.Errorf("%s: the lists of parts share memory", s.instance)
		}
	}
	// Parts that are in the same memory, and a formula that holds a part in one memory.
	a := read(t, "P0(f0(x0), f1)")
	got, fault := Make(2, api.Parts{List: []api.Expr{a, a, a}})
	if fault != api.OK || !samples.Apart(got) {
		t.Errorf("the memory of parts is shared, %d", fault)
	}
	split, fault := Parts(2, byTable(2, api.Parts{List: []api.Expr{a, a, a}}))
	if fault != api.OK || len(split.List) != 3 || !samples.Apart(split.List...) {
		t.Errorf("the memory of an instance is shared, %d", fault)
	}
}

// R4: what is returned of the numbers of schemas is new memory.
func TestNumbersAnew(t *testing.T) {
	e := read(t, "(x0 = x1 > (x0 = x1 > x0 = x1))")
	list, _ := Which(e)
	list[:cap(list)][0], list[:cap(list)][cap(list)-1] = 9, 9
	which(t, e, []int{1, 7}, api.OK)
}

// R4, R6: what is done to arguments and results after a call does not show, and calls do not show in one another.
func TestNothingKept(t *testing.T) {
	p := parts(t, 0, "P0(x0)", "f0(x1)")
	got, _ := Make(4, p)
	p.List[0].Kids[0], p.List[1] = node(api.App, 9), node(api.App, 8)
	if samples.Text(got) != "(@x0 P0(x0) > P0(f0(x1)))" {
		t.Errorf("%s", text(got))
	}
	split, _ := Parts(4, got)
	got.Kids[0].Kids[0].Kids[0], got.Kids[1].Kids[0] = node(api.App, 9), node(api.App, 7)
	if !equalParts(split, parts(t, 0, "P0(x0)", "f0(x1)")) {
		t.Errorf("%q", told(split))
	}
	makes(t, 4, p, read(t, "(@x0 P0(f9) > P0(f9))"), api.OK)
	splits(t, 4, got, api.Parts{}, api.ErrNot)
	if !expr.Same(got, read(t, "(@x0 P0(f9) > P0(f7))")) {
		t.Errorf("%s", text(got))
	}
}
