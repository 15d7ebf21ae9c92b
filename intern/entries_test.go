package intern

import (
	"math"
	"slices"
	"testing"

	"organon/api"
	"organon/expr"
	"organon/free"
	"organon/samples"
)

// P6.3: only what is an entry is found, and nothing is added by asking.
func TestFind(t *testing.T) {
	table := New(api.MaxTable)
	puts(t, table, read(t, "@x0 (P0(x0, f0(x1)) > P1)"), 7, api.OK)
	list := missing(nil, read(t, "@x0 (P0(x0, f0(x1)) > P1)"))
	for _, s := range []string{
		// Their parts are entries.
		"P0(x0)", "P0(x0, x0)", "P0(f0(x1), x0)", "P0(x1, f0(x1))", "P1(x0)", "f0(x0)", "f0(f0(x1))", "f1(x1)", "!P1",
		"(P1 > P0(x0, f0(x1)))", "(P0(x0, f0(x1)) & P1)", "(P0(x0, f0(x1)) | P1)", "?x0 (P0(x0, f0(x1)) > P1)",
		"@x1 (P0(x0, f0(x1)) > P1)", "@x0 @x0 (P0(x0, f0(x1)) > P1)", "@x0 P1", "x0 = x1", "x0 = x0",
		// Some of their parts are no entries.
		"x2", "P0", "f1", "P0(x2, f0(x1))", "P0(x0, f0(x2))", "(P2 > P1)", "(P1 > P2)", "@x0 !P1", "!!P1",
	} {
		finds(t, table, read(t, s), 0)
	}
	holds(t, table, list)
}

// P6.3: what is not valid is not found, however near it is to an entry.
func TestFindWrong(t *testing.T) {
	table := New(api.MaxTable)
	for _, s := range []string{"P0(x0, x0, x0, x0)", "@x0 P0", "(P0 > P0)", "f0(x0)", "x0 = x0", "!P0"} {
		if _, fault := table.Put(read(t, s)); fault != api.OK {
			t.Fatal(s, fault)
		}
	}
	x, p := read(t, "x0"), read(t, "P0")
	for _, e := range []api.Expr{
		samples.Node(api.Atom, 0, x, x, x, x, x), samples.Node(api.Not, 0, samples.Node(api.Atom, 0, x, x, x, x, x)), samples.Node(api.Atom, 0, p), samples.Node(api.Not, 0), samples.Node(api.Not, 0, x),
		samples.Node(api.Not, 1, p), samples.Node(api.Imp, 0, p), samples.Node(api.Imp, 0, p, p, p), samples.Node(api.Eq, 0, x, p),
		samples.Node(api.Var, 64), samples.Node(api.Var, 0, x), samples.Node(0, 0), samples.Node(11, 0),
		samples.Node(api.All, 0, p, x), samples.Node(api.All, 0, x),
	} {
		finds(t, table, e, 0)
	}
	for _, w := range samples.Wrong() {
		finds(t, table, w.Expr, 0)
	}
}

// P6.4, R2, R11: numbers that no entry has.
func TestNoEntry(t *testing.T) {
	table := New(10)
	puts(t, table, read(t, "P0(x0)"), 2, api.OK)
	for _, n := range []int{0, -1, -2, 3, 10, 11, 65, math.MinInt, math.MaxInt, 1 << 32, 1<<32 + 1, math.MinInt + 1} {
		absent(t, table, n)
	}
	holds(t, table, []api.Expr{read(t, "x0"), read(t, "P0(x0)")})
}

// P6.4: the free variables and the size of each part, not only of what was put.
func TestFreeAndSize(t *testing.T) {
	table := New(20)
	puts(t, table, read(t, "@x1 (P0(x0, x1) > ?x0 x63 = f0(x0, x1))"), 9, api.OK)
	for n, want := range []struct {
		text string
		free uint64
		size int
	}{
		{"x0", samples.Bits(0), 1},
		{"x1", samples.Bits(1), 1},
		{"P0(x0, x1)", samples.Bits(0, 1), 3},
		{"x63", samples.Bits(63), 1},
		{"f0(x0, x1)", samples.Bits(0, 1), 3},
		{"x63 = f0(x0, x1)", samples.Bits(0, 1, 63), 5},
		{"?x0 x63 = f0(x0, x1)", samples.Bits(1, 63), 6},
		{"(P0(x0, x1) > ?x0 x63 = f0(x0, x1))", samples.Bits(0, 1, 63), 10},
		{"@x1 (P0(x0, x1) > ?x0 x63 = f0(x0, x1))", samples.Bits(0, 63), 11},
	} {
		e, _ := table.Get(n + 1)
		set, _ := table.Free(n + 1)
		size, _ := table.Size(n + 1)
		if samples.Text(e) != want.text || set != want.free || size != want.size {
			t.Errorf("entry %d is %s, %b, %d; want %s, %b, %d", n+1, text(e), set, size, want.text, want.free, want.size)
		}
	}
}

// P6.2 to P6.5: many expressions in one table, against a list that is kept by the words of the chapter.
func TestByWords(t *testing.T) {
	const room = 1500
	table := New(room)
	var list []api.Expr
	full := 0
	for i, e := range valid() {
		fresh := missing(list, e)
		if len(list)+len(fresh) > room {
			full++
			puts(t, table, e, 0, api.ErrFull)
			counts(t, table, len(list))
			continue
		}
		list = append(list, fresh...)
		want := 1 + slices.IndexFunc(list, func(other api.Expr) bool { return equal(other, e) })
		puts(t, table, e, want, api.OK)
		counts(t, table, len(list))
		if i%100 == 0 {
			holds(t, table, list)
		}
	}
	holds(t, table, list)
	if full == 0 || len(list) < room-20 {
		t.Errorf("%d entries, %d refused", len(list), full)
	}
}

// P6.5: the consequences.
func TestConsequences(t *testing.T) {
	table := New(api.MaxTable)
	numbers, put := map[string]int{}, map[string]bool{}
	for _, e := range valid() {
		n, fault := table.Put(e)
		got, none := table.Get(n)
		if fault != api.OK || none != api.OK || !expr.Same(got, e) {
			t.Fatalf("Put(%s) = %d, %d; Get is %s", text(e), n, fault, text(got))
		}
		code, _ := expr.Encode(e)
		if old, is := numbers[string(code)]; is && old != n {
			t.Errorf("%s has the numbers %d and %d", text(e), old, n)
		}
		numbers[string(code)] = n
		for _, part := range parts(e) {
			code, _ := expr.Encode(part)
			put[string(code)] = true
		}
	}
	byNumber := map[int]bool{}
	for _, n := range numbers {
		byNumber[n] = true
	}
	if len(byNumber) != len(numbers) || table.Len() != len(put) {
		t.Errorf("%d numbers of %d expressions; %d entries of %d parts", len(byNumber), len(numbers), table.Len(), len(put))
	}
	partsFirst(t, table)
}

// partsFirst fails unless each Kid of each entry has a smaller number, and Free and Size agree with the layers below.
func partsFirst(t *testing.T, table *Table) {
	t.Helper()
	for n := 1; n <= table.Len(); n++ {
		e, _ := table.Get(n)
		for _, kid := range e.Kids {
			if k := table.Find(kid); k < 1 || k >= n {
				t.Fatalf("the part %s of entry %d has the number %d", text(kid), n, k)
			}
		}
		set, _ := table.Free(n)
		size, _ := table.Size(n)
		if want, _ := free.Free(e); set != want || size != expr.Size(e) {
			t.Fatalf("entry %d, %s: %b, %d", n, text(e), set, size)
		}
	}
}
