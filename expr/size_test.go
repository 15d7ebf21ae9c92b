package expr

import (
	"math/rand"
	"slices"
	"testing"

	"organon/api"
)

// P2.2
func TestSize(t *testing.T) {
	if got := Size(q()); got != 5 {
		t.Errorf("Size(q) = %d", got)
	}
	for _, n := range []int{1, 2, 3, 4, 500, 998, 999, 1000, 1001, 1002, 5000} {
		for _, e := range []api.Expr{sized(n), sizedTerm(n), nested(n-1, v()), crowd(n - 1)} {
			if got := Size(e); got != min(n, 1001) {
				t.Errorf("%d nodes: %d", n, got)
			}
		}
	}
}

// P2.2
func TestDepth(t *testing.T) {
	if got := Depth(q()); got != 4 {
		t.Errorf("Depth(q) = %d", got)
	}
	for _, n := range []int{1, 2, 3, 50, 98, 99, 100, 101, 102, 1000, 1001, 1002, 1 << 16} {
		for _, e := range []api.Expr{nested(n-1, v()), nestedTerm(n-1, node(0, 0)), doubled(n-1, v())} {
			if got := Depth(e); got != min(n, 101) {
				t.Errorf("%d nested: %d", n, got)
			}
		}
	}
}

// P2.2, R1: every expression is accepted, valid or not.
func TestSizeAndDepthOfWrong(t *testing.T) {
	for _, e := range append(misshapen(), tooDeep()...) {
		if Size(e) != min(count(e), 1001) || Depth(e) != min(level(e), 101) {
			t.Errorf("%d, %d; want %d, %d", Size(e), Depth(e), count(e), level(e))
		}
	}
	if Size(api.Expr{}) != 1 || Depth(api.Expr{}) != 1 {
		t.Error("the empty expression")
	}
	for i, e := range tooMany() {
		if Size(e) != 1001 {
			t.Errorf("too many %d: %d", i, Size(e))
		}
	}
}

// P2.2, R1: more than MaxNodes nodes, wherever the deepest one is.
func TestDepthOfMany(t *testing.T) {
	leaf := node(api.Atom, 0)
	shared := nested(60, doubled(10, leaf))
	for i, c := range []struct {
		e    api.Expr
		want int
	}{
		{shared, 71},
		{node(api.Imp, 0, shared, nested(28, shared)), 100},
		{node(api.Imp, 0, shared, nested(29, shared)), 101},
		{node(api.Imp, 0, shared, nested(60, shared)), 101},
		{node(api.Imp, 0, nested(60, shared), shared), 101},
		{crowd(1 << 20), 2},
		{node(api.Imp, 0, sized(3000), nested(60, leaf)), 62},
		{node(api.Imp, 0, nested(60, leaf), sized(3000)), 62},
		{node(api.Imp, 0, sized(3000), nested(98, leaf)), 100},
		{node(api.Imp, 0, sized(3000), nested(99, leaf)), 101},
		{node(api.Imp, 0, sized(3000), nested(100, leaf)), 101},
		{node(api.Imp, 0, doubled(40, leaf), nested(41, leaf)), 43},
		{doubled(62, leaf), 63},
		{doubled(99, leaf), 100},
		{doubled(100, leaf), 101},
		{doubled(101, leaf), 101},
		{doubled(50, nested(49, leaf)), 100},
		{doubled(50, nested(50, leaf)), 101},
		{looped(), 101},
		{loopedLate(), 101},
		{node(api.Not, 0, slices.Repeat([]api.Expr{doubled(30, leaf)}, 1000)...), 32},
	} {
		if got := Depth(c.e); got != c.want {
			t.Errorf("%d: %d; want %d", i, got, c.want)
		}
	}
}

// P2.2, R1: each node contains the two before it, in this order or the other one, in the same memory everywhere.
func TestDepthOfShared(t *testing.T) {
	for turn := range 2 {
		less, more := node(api.Atom, 0), node(api.Atom, 1)
		for depth := 2; depth < 130; depth++ {
			pair := []api.Expr{less, more}
			if depth%2 == turn {
				pair = []api.Expr{more, less}
			}
			less, more = more, node(api.Imp, 0, pair...)
			if got := Depth(more); got != min(depth, 101) {
				t.Fatalf("%d; want %d", got, depth)
			}
		}
	}
}

// P2.2: a list of Kids and a shorter one that begins in the same place are two lists.
func TestDepthOfOverlappingLists(t *testing.T) {
	kids := append(slices.Repeat([]api.Expr{node(api.Atom, 0)}, 2000), nested(50, v()))
	short, long := node(api.Not, 0, kids[:2000]...), node(api.Not, 0, kids...)
	for _, e := range []api.Expr{node(api.Imp, 0, short, long), node(api.Imp, 0, long, short)} {
		if got := Depth(e); got != 53 {
			t.Errorf("%d; want 53", got)
		}
	}
	if got := Depth(node(api.Imp, 0, short, short)); got != 3 {
		t.Errorf("%d; want 3", got)
	}
}

// randomTree returns a tree of nodes of any kind.
func randomTree(r *rand.Rand, room, most int) api.Expr {
	e := node(r.Intn(14)-1, r.Intn(120)-10)
	for range r.Intn(most + 1) {
		if room > 1 {
			e.Kids = append(e.Kids, randomTree(r, room-1, most))
		}
	}
	return e
}

// P2.2: trees of all sizes.
func TestSizeAndDepthOfRandom(t *testing.T) {
	r := rand.New(rand.NewSource(2))
	large := 0
	for range 2000 {
		e := randomTree(r, 1+r.Intn(9), 1+r.Intn(6))
		if count(e) > 1000 {
			large++
		}
		if Size(e) != min(count(e), 1001) || Depth(e) != level(e) {
			t.Fatalf("%d, %d; want %d, %d", Size(e), Depth(e), count(e), level(e))
		}
	}
	if large < 50 {
		t.Errorf("only %d large trees", large)
	}
}
