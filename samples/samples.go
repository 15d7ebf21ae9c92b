// Package samples makes expressions for the tests of the layers: by hand, from texts, at the limits, wrong ones and
// arbitrary ones. No layer imports it.
package samples

import (
	"organon/api"
	"organon/parse"
)

// Node returns a node with the given Kids.
func Node(kind, id int, kids ...api.Expr) api.Expr {
	return api.Expr{Kind: kind, Id: id, Kids: kids}
}

// Variable returns the term that is the variable x.
func Variable(x int) api.Expr {
	return Node(api.Var, x)
}

// Read returns the formula or term whose text s is; if there is none, an expression that is not valid.
func Read(s string) api.Expr {
	e, fault, _ := parse.Formula(s)
	if fault != api.OK {
		e, _, _ = parse.Term(s)
	}
	return e
}

// Failer is a test that can be given up.
type Failer interface {
	Helper()
	Fatalf(format string, args ...any)
}

// Must returns the formula or term whose text s is; if there is none, the test is given up.
func Must(t Failer, s string) api.Expr {
	t.Helper()
	e := Read(s)
	if IsZero(e) {
		t.Fatalf("%q is no formula and no term", s)
	}
	return e
}

// Text returns the text of e, or nothing if e is not valid.
func Text(e api.Expr) string {
	s, _ := parse.Print(e)
	return s
}

// Short returns the text of e, or its beginning, as a test tells it.
func Short(e api.Expr) string {
	s := Text(e)
	return s[:min(len(s), 100)]
}

// IsZero reports whether e is the zero value, but for an empty list.
func IsZero(e api.Expr) bool {
	return e.Kind == 0 && e.Id == 0 && len(e.Kids) == 0
}

// Bits returns the set of the given variables.
func Bits(list ...int) uint64 {
	set := uint64(0)
	for _, x := range list {
		set |= 1 << x
	}
	return set
}

// Within returns e within so many nodes of a kind with one Kid.
func Within(times, kind, id int, e api.Expr) api.Expr {
	for range times {
		e = Node(kind, id, e)
	}
	return e
}

// Doubled returns 2^times copies of e in one tree, all of them in the same memory.
func Doubled(times int, e api.Expr) api.Expr {
	for range times {
		e = Node(api.And, 0, e, e)
	}
	return e
}

// Sized returns a formula of low depth with so many nodes and no variables.
func Sized(count int) api.Expr {
	switch count {
	case 1:
		return Node(api.Atom, 0)
	case 2:
		return Node(api.Not, 0, Sized(1))
	}
	left := (count - 1) / 2
	return Node(api.Imp, 0, Sized(left), Sized(count-1-left))
}

// SizedTerm returns a term of low depth with so many nodes and no variables.
func SizedTerm(count int) api.Expr {
	switch count {
	case 1:
		return Node(api.App, 0)
	case 2:
		return Node(api.App, 0, SizedTerm(1))
	}
	left := (count - 1) / 2
	return Node(api.App, 0, SizedTerm(left), SizedTerm(count-1-left))
}

// First returns a formula in which the variables below count, 1 or more, are free: atoms of four of them, joined two by two.
func First(count int) api.Expr {
	var list []api.Expr
	for x := range count {
		if x%api.MaxArgs == 0 {
			list = append(list, Node(api.Atom, 0))
		}
		last := &list[len(list)-1]
		last.Kids = append(last.Kids, Variable(x))
	}
	for len(list) > 1 {
		list = append(list[2:], Node(api.Or, 0, list[0], list[1]))
	}
	return list[0]
}

// Lined returns the text with these lines, each of them terminated.
func Lined(lines ...string) string {
	text := ""
	for _, line := range lines {
		text += line + "\n"
	}
	return text
}

// Self returns the lines of a unit that proves (P0 > P0).
func Self() []string {
	return []string{
		"cites",
		"states (P0 > P0)",
		"1 (P0 > ((P0 > P0) > P0)) : axiom 1",
		"2 ((P0 > ((P0 > P0) > P0)) > ((P0 > (P0 > P0)) > (P0 > P0))) : axiom 2",
		"3 ((P0 > (P0 > P0)) > (P0 > P0)) : detach 1 2",
		"4 (P0 > (P0 > P0)) : axiom 1",
		"5 (P0 > P0) : detach 4 3",
	}
}
