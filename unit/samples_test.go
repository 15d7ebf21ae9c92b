package unit

import (
	"math/rand"
	"slices"
	"strconv"
	"testing"

	"organon/api"
	"organon/expr"
	"organon/samples"
)

// The samples under short names.
var (
	must   = samples.Must
	node   = samples.Node
	within = samples.Within
	sized  = samples.Sized
	lined  = samples.Lined
)

// same reports whether two units are equal; nil and an empty list are.
func same(u, v api.Unit) bool {
	return slices.Equal(u.Cites, v.Cites) && expr.Same(u.States, v.States) &&
		slices.EqualFunc(u.Steps, v.Steps, func(a, b api.Step) bool {
			return expr.Same(a.Says, b.Says) && a.By == b.By && a.A == b.A && a.B == b.B && a.Cite == b.Cite
		})
}

// isZero reports whether u is the zero value, but for empty lists.
func isZero(u api.Unit) bool {
	return len(u.Cites) == 0 && samples.IsZero(u.States) && len(u.Steps) == 0
}

// short returns a text, or its beginning, as a test tells it.
func short(s string) string {
	return strconv.Quote(s[:min(len(s), 200)])
}

// axiom returns a step by an axiom.
func axiom(says api.Expr, number int) api.Step {
	return api.Step{Says: says, By: api.ByAxiom, A: number}
}

// small returns a valid unit with the given number of steps that cites nothing.
func small(steps int) api.Unit {
	p := node(api.Atom, 0)
	return api.Unit{States: p, Steps: slices.Repeat([]api.Step{axiom(p, 1)}, steps)}
}

// stating returns a valid unit, if e can be written, that states e.
func stating(e api.Expr) api.Unit {
	u := small(1)
	u.States = e
	return u
}

// saying returns a valid unit, if e can be written, with e in the last of so many steps.
func saying(steps int, e api.Expr) api.Unit {
	u := small(steps)
	u.Steps[steps-1].Says = e
	return u
}

// citing returns a valid unit, if the list may be cited, that cites it.
func citing(names ...string) api.Unit {
	u := small(1)
	u.Cites = names
	return u
}

// names returns so many different ones.
func names(count int) []string {
	var list []string
	for i := range count {
		list = append(list, "n"+strconv.Itoa(i))
	}
	return list
}

// badNames returns texts that are no names.
func badNames() []string {
	return []string{
		"", "A", "1a", "-", "-a", "aB", "a_b", "a.b", "a\tb", "a:", "a\r", "é", "aé", "\xff", "a\x00", "abcdefghijklm", "a{", "a`", "a/",
	}
}

// anyName returns an arbitrary name.
func anyName(r *rand.Rand) string {
	const bytes = "abcxyz059-"
	s := bytes[r.Intn(6):][:1]
	for range r.Intn(api.MaxName) {
		s += bytes[r.Intn(len(bytes)):][:1]
	}
	return s
}

// anyWritable returns an arbitrary formula that can be written.
func anyWritable(r *rand.Rand) api.Expr {
	for {
		e := samples.AnyFormula(r, 1+r.Intn(6))
		if expr.Size(e) <= api.MaxWrite && expr.Depth(e) <= api.MaxNest {
			return e
		}
	}
}

// anyNumber returns one of an arbitrary number of digits.
func anyNumber(r *rand.Rand) int {
	n := 0
	for range r.Intn(10) {
		n = 10*n + r.Intn(10)
	}
	return n
}

func anyStep(r *rand.Rand) api.Step {
	s := api.Step{Says: anyWritable(r), By: 1 + r.Intn(4)}
	switch s.By {
	case api.ByAxiom:
		s.A = anyNumber(r)
	case api.ByDetach:
		s.A, s.B = anyNumber(r), anyNumber(r)
	case api.ByGen:
		s.A, s.B = anyNumber(r), r.Intn(api.MaxVar+1)
	case api.ByCite:
		s.Cite = anyName(r)
	}
	return s
}

// anyUnit returns an arbitrary valid unit.
func anyUnit(r *rand.Rand) api.Unit {
	u := api.Unit{States: anyWritable(r)}
	for range r.Intn(api.MaxCites + 1) {
		if name := anyName(r); !slices.Contains(u.Cites, name) {
			u.Cites = append(u.Cites, name)
		}
	}
	steps := 1 + r.Intn(4)
	if r.Intn(20) == 0 {
		steps = 1 + r.Intn(api.MaxSteps)
	}
	for range steps {
		u.Steps = append(u.Steps, anyStep(r))
	}
	return u
}

// The arbitrary units are valid, and of all kinds.
func TestSamples(t *testing.T) {
	r := rand.New(rand.NewSource(9))
	kinds := map[int]int{}
	for range 500 {
		u := anyUnit(r)
		if fault := Right(u); fault != api.OK {
			t.Fatal(u, fault)
		}
		for _, step := range u.Steps {
			kinds[step.By]++
		}
		kinds[-len(u.Cites)]++
	}
	for kind := -api.MaxCites; kind <= 4; kind++ {
		if kinds[kind] < 5 {
			t.Errorf("%d: %d", kind, kinds[kind])
		}
	}
}
