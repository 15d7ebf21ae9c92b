package check

import (
	"organon/api"
	"organon/expr"
	"organon/rule"
	"organon/schema"
)

// reason is by what a step is justified.
type reason interface {
	// fault returns the error of the step with this number, if it does not follow by the reason.
	fault(r *reading, number int) api.Errno
}

// axiom is the schema of which the step is an instance.
type axiom struct{ schema int }

// detachment is what follows from one step by another one, the implication.
type detachment struct{ premise, implication int }

// generalization is a step for all values of a variable.
type generalization struct{ step, variable int }

// citation is what a name provides.
type citation struct{ name string }

// reasonOf returns the reason of a step of a valid unit.
func reasonOf(s api.Step) reason {
	switch s.By {
	case api.ByAxiom:
		return axiom{s.A}
	case api.ByDetach:
		return detachment{s.A, s.B}
	case api.ByGen:
		return generalization{s.A, s.B}
	}
	return citation{s.Cite}
}

// precedes reports whether there is a step with the number a ahead of the one with the given number.
func precedes(a, number int) bool {
	return 1 <= a && a < number
}

func (a axiom) fault(r *reading, number int) api.Errno {
	// Of a schema that does not exist nothing is an instance.
	if is, _ := schema.Is(a.schema, r.says(number)); !is {
		return api.ErrAxiom
	}
	return api.OK
}

func (d detachment) fault(r *reading, number int) api.Errno {
	if !precedes(d.premise, number) || !precedes(d.implication, number) {
		return api.ErrStep
	}
	follows, fault := rule.Detach(r.says(d.premise), r.says(d.implication))
	switch {
	case fault != api.OK:
		return api.ErrDetach
	case !expr.Same(follows, r.says(number)):
		return api.ErrLess
	}
	return api.OK
}

func (g generalization) fault(r *reading, number int) api.Errno {
	if !precedes(g.step, number) {
		return api.ErrStep
	}
	follows, fault := rule.Gen(r.says(g.step), g.variable)
	if fault != api.OK || !expr.Same(follows, r.says(number)) {
		return api.ErrGen
	}
	return api.OK
}

func (c citation) fault(r *reading, number int) api.Errno {
	if !r.cites(c.name) {
		return api.ErrCite
	}
	says, is := r.provided(c.name)
	switch {
	case !is:
		return api.ErrAbsent
	case !expr.Same(says, r.says(number)):
		return api.ErrOther
	}
	return api.OK
}
