package intern

import (
	"testing"

	"organon/api"
	"organon/samples"
)

// R4: no call changes its argument, nor what is behind its lists.
func TestArgumentsUntouched(t *testing.T) {
	for _, room := range []int{2, api.MaxTable} {
		table := New(room)
		for _, s := range []string{"P0(x0, f0(x0), x1)", "@x1 P0(x0, x1)", "P0", "x0", "f0(x0, f1(x0))", "(P0 > (P1 & !x0 = f1(f2)))"} {
			e := samples.Roomy(read(t, s))
			table.Find(e)
			table.Put(e)
			table.Put(e)
			table.Find(e)
			if !samples.Untouched(e, s) {
				t.Errorf("%s is changed", s)
			}
		}
	}
}

// R4: what is done to an argument after the call does not show.
func TestArgumentsNotKept(t *testing.T) {
	table := New(10)
	e := read(t, "P0(f0(x0), x1)")
	puts(t, table, e, 4, api.OK)
	list := missing(nil, read(t, "P0(f0(x0), x1)"))
	e.Kids[0].Kids[0], e.Kids[1] = read(t, "x7"), read(t, "f9")
	holds(t, table, list)
	finds(t, table, e, 0)
}

// R4: results are new memory, also those of equal parts and of two calls.
func TestResultsAnew(t *testing.T) {
	table := New(api.MaxTable)
	e := samples.Roomy(read(t, "((P0(f0(x0), f0(x0)) > P0(f0(x0), f0(x0))) & @x1 P0(f0(x0), f0(x0)))"))
	if _, fault := table.Put(e); fault != api.OK {
		t.Fatal(fault)
	}
	list := missing(nil, e)
	results := []api.Expr{e}
	for range 2 {
		for n := 1; n <= table.Len(); n++ {
			got, _ := table.Get(n)
			results = append(results, got)
		}
	}
	kept := make([]api.Expr, len(list))
	for i, part := range list {
		kept[i] = read(t, samples.Text(part))
	}
	if !samples.Apart(results...) {
		t.Error("memory is shared")
	}
	// All results were overwritten; the table still holds what was put.
	holds(t, table, kept)
}

// P6.2, R6: the same calls have the same results in every table.
func TestSameAgain(t *testing.T) {
	a, b := New(3000), New(3000)
	for _, e := range valid()[:300] {
		n, fault := a.Put(e)
		puts(t, b, e, n, fault)
	}
	counts(t, b, a.Len())
	for n := 1; n <= a.Len(); n++ {
		first, _ := a.Get(n)
		second, _ := b.Get(n)
		if !equal(first, second) {
			t.Fatalf("entry %d is %s and %s", n, text(first), text(second))
		}
	}
}
