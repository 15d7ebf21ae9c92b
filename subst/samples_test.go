package subst

import (
	"math/rand"
	"slices"
	"testing"

	"organon/api"
	"organon/expr"
	"organon/samples"
)

// The samples under short names.
var (
	read   = samples.Must
	text   = samples.Short
	node   = samples.Node
	within = samples.Within
	sized  = samples.Sized
	first  = samples.First
	roomy  = samples.Roomy
)

// pairs returns a list of pairs: the variables x, x + 1 and so on, with the terms whose texts are given.
func pairs(t *testing.T, x int, terms ...string) []api.Pair {
	t.Helper()
	var l []api.Pair
	for i, s := range terms {
		l = append(l, api.Pair{Var: x + i, For: read(t, s)})
	}
	return l
}

// valid returns valid expressions of many shapes.
func valid() []api.Expr {
	return samples.All(rand.New(rand.NewSource(5)), 2000)
}

// eachWrong calls what it is given with each expression that is not valid and its error.
func eachWrong(call func(e api.Expr, want api.Errno)) {
	for _, w := range samples.Wrong() {
		call(w.Expr, w.Code)
	}
}

// outcome fails unless got and fault are want and OK, or nothing and the wanted error.
func outcome(t *testing.T, call string, got api.Expr, fault api.Errno, want api.Expr, wanted api.Errno) {
	t.Helper()
	if fault != wanted || wanted == api.OK && !expr.Same(got, want) || wanted != api.OK && !samples.IsZero(got) {
		t.Errorf("%s = %s, %d; want %s, %d", call, text(got), fault, text(want), wanted)
	}
}

func quantifies(e api.Expr) bool {
	return slices.Contains([]int{api.All, api.Some}, e.Kind)
}

// byWords is Each by the words of P5.3, whatever is captured and however large it is: bound are the variables of the
// quantifiers around a.
func byWords(a api.Expr, l []api.Pair, bound ...int) api.Expr {
	if a.Kind == api.Var && !slices.Contains(bound, a.Id) {
		for _, p := range l {
			if p.Var == a.Id {
				return p.For
			}
		}
	}
	if quantifies(a) {
		bound = append(slices.Clone(bound), a.Id)
	}
	e := node(a.Kind, a.Id)
	for _, kid := range a.Kids {
		e.Kids = append(e.Kids, byWords(kid, l, bound...))
	}
	return e
}

// binder returns what binds a variable within the quantifiers of the given variables, from the root on:
// the place of the innermost one that names it; none: -1.
func binder(x int, around []int) int {
	for i, y := range slices.Backward(around) {
		if y == x {
			return i
		}
	}
	return -1
}
