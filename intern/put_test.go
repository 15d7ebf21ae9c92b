package intern

import (
	"slices"
	"testing"

	"organon/api"
	"organon/samples"
)

// P6.2, P6.3, P6.4: the rows of the examples.
func TestExamples(t *testing.T) {
	table := New(5)
	puts(t, table, read(t, "P0(x0, x0)"), 2, api.OK)
	counts(t, table, 2)
	finds(t, table, read(t, "x0"), 1)
	finds(t, table, read(t, "P0(x0, x0)"), 2)
	finds(t, table, read(t, "x1"), 0)
	puts(t, table, read(t, "!P0(x0, x0)"), 3, api.OK)
	puts(t, table, read(t, "x0"), 1, api.OK)
	if set, fault := table.Free(3); set != 1 || fault != api.OK {
		t.Errorf("Free(3) = %b, %d", set, fault)
	}
	if size, fault := table.Size(3); size != 4 || fault != api.OK {
		t.Errorf("Size(3) = %d, %d", size, fault)
	}
	absent(t, table, 0)
	absent(t, table, 4)
	puts(t, table, read(t, "(P1 > (P2 > P3))"), 0, api.ErrFull)
	counts(t, table, 3)
	puts(t, table, read(t, "(P1 > P1)"), 5, api.OK)
	counts(t, table, 5)
	puts(t, table, read(t, "P2"), 0, api.ErrFull)
	counts(t, table, 5)
}

// P6.2: Kids get their numbers before what they are in, from left to right, each part once.
func TestPutOrder(t *testing.T) {
	for _, c := range []struct {
		put     string
		entries []string
	}{
		{"x3", []string{"x3"}},
		{"P0", []string{"P0"}},
		{"P0(x3, x1, x2, x0)", []string{"x3", "x1", "x2", "x0", "P0(x3, x1, x2, x0)"}},
		{"f0(f1(x0), x1)", []string{"x0", "f1(x0)", "x1", "f0(f1(x0), x1)"}},
		{"f0(x1, f1(x0), x0)", []string{"x1", "x0", "f1(x0)", "f0(x1, f1(x0), x0)"}},
		{"f0(f0, f0(f0), f0)", []string{"f0", "f0(f0)", "f0(f0, f0(f0), f0)"}},
		{"x1 = x0", []string{"x1", "x0", "x1 = x0"}},
		// The variable that a quantifier names is no part.
		{"@x0 P0", []string{"P0", "@x0 P0"}},
		{"?x1 @x0 P0(x1)", []string{"x1", "P0(x1)", "@x0 P0(x1)", "?x1 @x0 P0(x1)"}},
		{"((P1 & P0) > (P0 | P1))", []string{"P1", "P0", "(P1 & P0)", "(P0 | P1)", "((P1 & P0) > (P0 | P1))"}},
		{"(!P0 > !P0)", []string{"P0", "!P0", "(!P0 > !P0)"}},
		{"(P0 > (P0 > P0))", []string{"P0", "(P0 > P0)", "(P0 > (P0 > P0))"}},
		{"((P0 > P0) > P0)", []string{"P0", "(P0 > P0)", "((P0 > P0) > P0)"}},
	} {
		var list []api.Expr
		for _, s := range c.entries {
			list = append(list, read(t, s))
		}
		table := New(len(list))
		puts(t, table, read(t, c.put), len(list), api.OK)
		holds(t, table, list)
		tight := New(len(list) - 1)
		puts(t, tight, read(t, c.put), 0, api.ErrFull)
		holds(t, tight, nil)
	}
}

// P6.2, P6.3, P6.5: expressions that differ in one thing alone have different numbers.
func TestPutDifferent(t *testing.T) {
	table := New(api.MaxTable)
	texts := []string{
		"x0", "x1", "x63", "f0", "f1", "f99", "P0", "P1", "P99", "f0(x0)", "f0(x0, x0)", "f0(x0, x0, x0)", "f0(x0, x0, x0, x0)",
		"f0(x0, x1)", "f0(x1, x0)", "f1(x0)", "P0(x0)", "P0(x0, x0)", "P0(x0, x0, x0)", "P0(x0, x0, x0, x0)", "P0(x1, x0, x0, x0)",
		"P0(x0, x0, x0, x1)", "P0(f0)", "P0(f0(x0))", "x0 = x1", "x1 = x0", "x0 = x0", "x0 = f0", "!P0", "!!P0", "(P0 > P1)", "(P1 > P0)",
		"(P0 & P1)", "(P0 | P1)", "@x0 P0", "@x1 P0", "?x0 P0", "@x0 @x1 P0", "@x1 @x0 P0", "@x0 !P0", "!@x0 P0", "(P0 > (P0 > P0))",
		"((P0 > P0) > P0)", "@x0 P0(x0)", "@x1 P0(x1)",
	}
	var numbers []int
	for _, s := range texts {
		n, fault := table.Put(read(t, s))
		if fault != api.OK || n == 0 || slices.Contains(numbers, n) {
			t.Errorf("Put(%s) = %d, %d", s, n, fault)
		}
		numbers = append(numbers, n)
	}
	before := table.Len()
	for i, s := range texts {
		puts(t, table, read(t, s), numbers[i], api.OK)
		finds(t, table, read(t, s), numbers[i])
	}
	counts(t, table, before)
}

// P6.2, R2: if the room suffices for some of the new parts alone, none is added.
func TestPutFull(t *testing.T) {
	for _, c := range []struct {
		before, put string
		fresh       int
	}{
		{"P9", "(P1 > (P2 > P3))", 5},
		{"P1", "(P1 > (P2 > P3))", 4},
		{"(P1 & P2)", "(P1 > (P2 > P3))", 3},
		{"(P2 > P3)", "(P1 > (P2 > P3))", 2},
		{"(P1 & (P2 > P3))", "(P1 > (P2 > P3))", 1},
		{"P9", "P0(f0(x0, x0), f0(x0, x0))", 3},
		{"x0", "@x0 @x0 @x0 x0 = x0", 4},
		{"f0(f1, x7)", "(P3(f1, x7, f2) | P3(f1, x7, f2))", 3},
	} {
		old := missing(nil, read(t, c.before))
		fresh := missing(old, read(t, c.put))
		if len(fresh) != c.fresh {
			t.Fatalf("%s has %d new parts", c.put, len(fresh))
		}
		for room := len(old); room <= len(old)+c.fresh+1; room++ {
			table := New(room)
			puts(t, table, read(t, c.before), len(old), api.OK)
			if room >= len(old)+c.fresh {
				puts(t, table, read(t, c.put), len(old)+c.fresh, api.OK)
				holds(t, table, append(slices.Clone(old), fresh...))
				continue
			}
			for range 2 {
				puts(t, table, read(t, c.put), 0, api.ErrFull)
				holds(t, table, old)
				for _, e := range fresh {
					finds(t, table, e, 0)
				}
			}
			fillsUp(t, table, old, room)
		}
	}
}

// fillsUp puts other expressions into a table that refused one, up to its capacity.
func fillsUp(t *testing.T, table *Table, old []api.Expr, room int) {
	t.Helper()
	list := slices.Clone(old)
	for id := 50; len(list) < room; id++ {
		list = append(list, samples.Node(api.Atom, id))
		puts(t, table, list[len(list)-1], len(list), api.OK)
	}
	puts(t, table, read(t, "P49"), 0, api.ErrFull)
	holds(t, table, list)
}

// P6.2, R8: what is not valid is told, in a full table, too, and changes nothing.
func TestPutWrong(t *testing.T) {
	for _, room := range []int{2, 5, api.MaxTable} {
		table := New(room)
		puts(t, table, read(t, "P0(x0)"), 2, api.OK)
		for _, w := range samples.Wrong() {
			puts(t, table, w.Expr, 0, w.Code)
			finds(t, table, w.Expr, 0)
		}
		holds(t, table, []api.Expr{read(t, "x0"), read(t, "P0(x0)")})
	}
}

// P6.2, P6.4: as many nodes, and as many nested in each other, as there may be.
func TestPutAtLimits(t *testing.T) {
	for _, e := range []api.Expr{
		samples.Sized(api.MaxNodes), samples.SizedTerm(api.MaxNodes), samples.First(64),
		samples.Within(api.MaxDepth-1, api.All, 63, samples.Node(api.Atom, 99)),
		samples.Within(api.MaxDepth-1, api.App, 99, samples.Variable(63)),
		samples.Within(api.MaxDepth-4, api.Some, 0, read(t, "P0(f0(x0), f0(f0(x1)))")),
	} {
		list := missing(nil, e)
		table := New(len(list))
		puts(t, table, e, len(list), api.OK)
		holds(t, table, list)
		tight := New(len(list) - 1)
		puts(t, tight, e, 0, api.ErrFull)
		holds(t, tight, nil)
	}
}
