package intern

import (
	"math"
	"testing"

	"organon/api"
	"organon/samples"
)

// P6.1: the row of the examples, and the capacities at both ends and beyond them.
func TestNewCapacity(t *testing.T) {
	for _, room := range []int{-1, 20001, math.MinInt, math.MaxInt, -20000, 1 << 32, 1<<32 + 5, math.MinInt + 5} {
		if New(room) != nil {
			t.Errorf("New(%d) is not nil", room)
		}
	}
	for _, room := range []int{0, 1, 5, 19999, 20000} {
		table := New(room)
		if table == nil {
			t.Fatalf("New(%d) is nil", room)
		}
		holds(t, table, nil)
	}
}

// P6.1, P6.2: a table without room takes nothing; what is not valid is told before that.
func TestNoRoom(t *testing.T) {
	table := New(0)
	puts(t, table, read(t, "x0"), 0, api.ErrFull)
	puts(t, table, read(t, "@x0 P0(x0)"), 0, api.ErrFull)
	for _, w := range samples.Wrong() {
		puts(t, table, w.Expr, 0, w.Code)
	}
	holds(t, table, nil)
	finds(t, table, read(t, "x0"), 0)
}

// P6.1, P6.2: a table takes as many entries as its capacity says, and not one more.
func TestFilled(t *testing.T) {
	table := New(api.MaxTable)
	list := numbered(api.MaxTable + 1)
	for i, e := range list[:api.MaxTable] {
		if n, fault := table.Put(e); n != i+1 || fault != api.OK || table.Len() != i+1 {
			t.Fatalf("Put(%s) = %d, %d, with %d entries; want %d", text(e), n, fault, table.Len(), i+1)
		}
	}
	puts(t, table, list[api.MaxTable], 0, api.ErrFull)
	for i, e := range list[:api.MaxTable] {
		if n := table.Find(e); n != i+1 {
			t.Fatalf("Find(%s) = %d; want %d", text(e), n, i+1)
		}
		if got, fault := table.Get(i + 1); fault != api.OK || !equal(got, e) {
			t.Fatalf("Get(%d) = %s, %d; want %s", i+1, text(got), fault, text(e))
		}
	}
	finds(t, table, list[api.MaxTable], 0)
	puts(t, table, list[api.MaxTable-1], api.MaxTable, api.OK)
	puts(t, table, list[0], 1, api.OK)
	counts(t, table, api.MaxTable)
	absent(t, table, api.MaxTable+1)
}

// numbered returns so many different terms, whose Kids all come before them: the variables, and terms of two variables.
func numbered(count int) []api.Expr {
	var list []api.Expr
	for x := range api.MaxVar + 1 {
		list = append(list, samples.Variable(x))
	}
	for n := 0; len(list) < count; n++ {
		id, x, y := n/4096, n/64%64, n%64
		list = append(list, samples.Node(api.App, id, samples.Variable(x), samples.Variable(y)))
	}
	return list[:count]
}

// P6.1, P6.2: what is put into one table is not in another one.
func TestTablesApart(t *testing.T) {
	a, b := New(5), New(5)
	puts(t, a, read(t, "P0(x0)"), 2, api.OK)
	holds(t, b, nil)
	finds(t, b, read(t, "x0"), 0)
	puts(t, b, read(t, "P0"), 1, api.OK)
	holds(t, a, []api.Expr{read(t, "x0"), read(t, "P0(x0)")})
	holds(t, b, []api.Expr{read(t, "P0")})
}
