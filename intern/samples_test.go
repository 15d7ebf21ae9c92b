package intern

import (
	"math/rand"
	"slices"
	"testing"

	"organon/api"
	"organon/samples"
)

// The samples under short names.
var (
	read = samples.Must
	text = samples.Short
)

// valid returns valid expressions of many shapes.
func valid() []api.Expr {
	return samples.All(rand.New(rand.NewSource(6)), 1000)
}

// puts fails unless Put(e) is the number want, or nothing and the wanted error.
func puts(t *testing.T, table *Table, e api.Expr, want int, wanted api.Errno) {
	t.Helper()
	if n, fault := table.Put(e); n != want || fault != wanted {
		t.Errorf("Put(%s) = %d, %d; want %d, %d", text(e), n, fault, want, wanted)
	}
}

// finds fails unless Find(e) is want.
func finds(t *testing.T, table *Table, e api.Expr, want int) {
	t.Helper()
	if n := table.Find(e); n != want {
		t.Errorf("Find(%s) = %d; want %d", text(e), n, want)
	}
}

// counts fails unless Len is want.
func counts(t *testing.T, table *Table, want int) {
	t.Helper()
	if n := table.Len(); n != want {
		t.Errorf("Len = %d; want %d", n, want)
	}
}

// holds fails unless the entries of the table are those of the list, in its order, with what Get, Free and Size
// should say of them, and there are no others.
func holds(t *testing.T, table *Table, list []api.Expr) {
	t.Helper()
	counts(t, table, len(list))
	for i, e := range list {
		n := i + 1
		got, fault := table.Get(n)
		set, freeFault := table.Free(n)
		size, sizeFault := table.Size(n)
		if !equal(got, e) || set != freeByWords(e) || size != len(parts(e)) {
			t.Fatalf("entry %d is %s, %b, %d; want %s", n, text(got), set, size, text(e))
		}
		if fault != api.OK || freeFault != api.OK || sizeFault != api.OK {
			t.Fatalf("entry %d: %d, %d, %d", n, fault, freeFault, sizeFault)
		}
		finds(t, table, e, n)
	}
	absent(t, table, len(list)+1)
}

// absent fails unless n is the number of no entry.
func absent(t *testing.T, table *Table, n int) {
	t.Helper()
	if e, fault := table.Get(n); fault != api.ErrNone || !samples.IsZero(e) {
		t.Errorf("Get(%d) = %s, %d", n, text(e), fault)
	}
	if set, fault := table.Free(n); fault != api.ErrNone || set != 0 {
		t.Errorf("Free(%d) = %b, %d", n, set, fault)
	}
	if size, fault := table.Size(n); fault != api.ErrNone || size != 0 {
		t.Errorf("Size(%d) = %d, %d", n, size, fault)
	}
}

// equal reports whether a and b are equal node by node.
func equal(a, b api.Expr) bool {
	return a.Kind == b.Kind && a.Id == b.Id && slices.EqualFunc(a.Kids, b.Kids, equal)
}

// parts returns the parts of e in the order in which they are added: the Kids from left to right, then e itself.
func parts(e api.Expr) []api.Expr {
	var list []api.Expr
	for _, kid := range e.Kids {
		list = append(list, parts(kid)...)
	}
	return append(list, e)
}

// missing returns the parts of e that are not in the list, each once, in the order in which they are added.
func missing(list []api.Expr, e api.Expr) []api.Expr {
	var fresh []api.Expr
	for _, part := range parts(e) {
		is := func(other api.Expr) bool { return equal(part, other) }
		if !slices.ContainsFunc(list, is) && !slices.ContainsFunc(fresh, is) {
			fresh = append(fresh, part)
		}
	}
	return fresh
}

// freeByWords is the set of the variables that are free in e, by the words of chapter 4.
func freeByWords(e api.Expr) uint64 {
	set := uint64(0)
	for _, kid := range e.Kids {
		set |= freeByWords(kid)
	}
	switch e.Kind {
	case api.Var:
		return samples.Bits(e.Id)
	case api.All, api.Some:
		return set &^ samples.Bits(e.Id)
	}
	return set
}
