package samples

import (
	"math/rand"
	"testing"

	"organon/api"
	"organon/expr"
)

// The wrong samples are wrong in the way that they are filed under.
func TestWrong(t *testing.T) {
	for _, w := range Wrong() {
		if fault := expr.Right(w.Expr); fault != w.Code {
			t.Errorf("%d, %d: %d; want %d", w.Expr.Kind, w.Expr.Id, fault, w.Code)
		}
	}
}

// The other samples are valid, and what a test takes them for.
func TestSamplesAreValid(t *testing.T) {
	for _, e := range All(rand.New(rand.NewSource(1)), 500) {
		if fault := expr.Right(e); fault != api.OK {
			t.Errorf("%d, %d: %d", e.Kind, e.Id, fault)
		}
		if again := Read(Text(e)); !expr.Same(again, e) && expr.Size(e) < 900 {
			t.Errorf("%s is read as %s", Text(e), Text(again))
		}
	}
	for count := 1; count <= api.MaxNodes; count++ {
		if n, m := expr.Size(Sized(count)), expr.Size(SizedTerm(count)); n != count || m != count {
			t.Fatalf("%d and %d nodes instead of %d", n, m, count)
		}
	}
}

// failer is a test that only notes whether it was given up.
type failer struct {
	failed bool
}

func (f *failer) Helper() {}

func (f *failer) Fatalf(string, ...any) { f.failed = true }

// A text that can't be read is no sample.
func TestMust(t *testing.T) {
	for s, ends := range map[string]bool{"P0(x1, f2)": false, "f2(x1)": false, "P0(": true, "": true, "f2 > f2": true} {
		f := &failer{}
		if e := Must(f, s); f.failed != ends || !ends && Text(e) != s {
			t.Errorf("%q: %s, %v", s, Text(e), f.failed)
		}
	}
	if long := Short(Sized(1000)); len(long) != 100 || Short(Read("P0")) != "P0" {
		t.Errorf("%d bytes: %s", len(long), long)
	}
}

// Apart finds lists that share memory, also behind their ends.
func TestApart(t *testing.T) {
	e := Read("P0(f0(x0), x1)")
	if !Apart(Read("P0(f0(x0), x1)"), Roomy(e), Roomy(e)) {
		t.Error("lists that are apart are not found to be so")
	}
	if Apart(Doubled(1, Read("!P0"))) {
		t.Error("lists that share memory are not found")
	}
	long := make([]api.Expr, 2)
	if Apart(Node(api.Not, 0, long[:1]...), Node(api.Not, 0, long[1:]...)) {
		t.Error("lists that share their spare capacity are not found")
	}
}
