package rule

import (
	"math/rand"
	"testing"

	"organon/api"
	"organon/expr"
	"organon/free"
	"organon/samples"
)

// settled fails unless the plain form of e has no abbreviation, is its own plain form, and has the free variables of e.
func settled(t *testing.T, e api.Expr) {
	t.Helper()
	got, fault := Plain(e)
	if fault != api.OK {
		t.Fatalf("Plain(%s): %d", text(e), fault)
	}
	for _, part := range expr.All(got) {
		if isAbbreviation(part) {
			t.Fatalf("Plain(%s) has %s in it", text(e), text(part))
		}
	}
	plains(t, got, got, api.OK)
	equals(t, e, got, true, api.OK)
	before, _ := free.Free(e)
	if after, fault := free.Free(got); after != before || fault != api.OK {
		t.Errorf("Plain(%s): %b is free, %b was; %d", text(e), after, before, fault)
	}
}

// P8.5
func TestPlainConsequences(t *testing.T) {
	for _, e := range valid() {
		if expr.Right(byWords(e)) == api.OK {
			settled(t, e)
		}
	}
	for _, c := range limits() {
		if c.want == api.OK {
			settled(t, c.e)
		}
	}
}

// writable returns a formula of MaxWrite nodes, MaxNest of them nested in each other, with hardly a node that is no
// abbreviation: And in the upper part, and below it chains of a kind.
func writable(kind int) api.Expr {
	const chains = 11
	list := make([]api.Expr, chains)
	missing := api.MaxWrite - (chains - 1)
	for i := range list {
		length := missing / (chains - i)
		missing -= length
		list[i] = within(length-1, kind, i, node(api.Atom, 0))
	}
	return joined(api.And, list)
}

// P8.5: what can be written in a unit has a plain form: at the limits.
func TestPlainOfLargestWritable(t *testing.T) {
	for _, kind := range []int{api.Some, api.All} {
		e := writable(kind)
		if expr.Right(e) != api.OK || expr.Size(e) != api.MaxWrite || expr.Depth(e) != api.MaxNest {
			t.Errorf("%d nodes, depth %d", expr.Size(e), expr.Depth(e))
		}
		settled(t, e)
	}
	settled(t, within(api.MaxNest-1, api.Some, 0, node(api.Atom, 0)))
	for _, kind := range []int{api.And, api.Or} {
		for _, first := range []bool{true, false} {
			e := node(api.Atom, 0)
			for range api.MaxNest - 1 {
				if first {
					e = node(kind, 0, e, node(api.Atom, 1))
				} else {
					e = node(kind, 0, node(api.Atom, 1), e)
				}
			}
			settled(t, e)
		}
	}
}

// P8.5: what can be written in a unit has a plain form: arbitrary formulas.
func TestPlainOfWritable(t *testing.T) {
	r := rand.New(rand.NewSource(85))
	large := 0
	for range 2000 {
		e := samples.AnyFormula(r, 3)
		for {
			next := node([]int{api.And, api.Or}[r.Intn(2)], 0, e, samples.AnyFormula(r, 12))
			if r.Intn(3) == 0 {
				next = node(api.Some, samples.AnyVariable(r), e)
			}
			if expr.Size(next) > api.MaxWrite || expr.Depth(next) > api.MaxNest {
				break
			}
			e = next
		}
		settled(t, e)
		if expr.Size(e) > api.MaxWrite/2 || expr.Depth(e) > api.MaxNest*2/3 {
			large++
		}
	}
	if large < 1000 {
		t.Errorf("only %d of the samples are large", large)
	}
}
