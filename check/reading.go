package check

import (
	"slices"

	"organon/api"
	"organon/expr"
	"organon/rule"
)

// reading is what a run has read: what the cited names provide, and the unit, once the text is parsed, with its formulas
// in their plain forms. Steps have numbers from 1 on.
type reading struct {
	told []api.Told
	unit api.Unit
}

// toldOf returns what the list tells of the names that provide something, in new memory.
func toldOf(names []string, told []api.Told) []api.Told {
	var list []api.Told
	for _, name := range names {
		first := slices.IndexFunc(told, func(t api.Told) bool { return t.Name == name })
		if first < 0 || !told[first].Is {
			continue
		}
		// In place of a statement that is not valid stands the zero value: no formula is equal to either.
		says, _ := expr.At(told[first].Says, nil)
		list = append(list, api.Told{Name: name, Is: true, Says: says})
	}
	return list
}

// plain returns the unit u, which it overwrites, with its formulas in their plain forms.
// There are some: what can be written has a plain form.
func plain(u api.Unit) api.Unit {
	u.States, _ = rule.Plain(u.States)
	for i, step := range u.Steps {
		u.Steps[i].Says, _ = rule.Plain(step.Says)
	}
	return u
}

// says returns what the step with a number says.
func (r *reading) says(number int) api.Expr {
	return r.unit.Steps[number-1].Says
}

func (r *reading) isLast(number int) bool {
	return number == len(r.unit.Steps)
}

func (r *reading) cites(name string) bool {
	return slices.Contains(r.unit.Cites, name)
}

// provided returns what a cited name provides; false: nothing.
func (r *reading) provided(name string) (api.Expr, bool) {
	for _, t := range r.told {
		if t.Name == name {
			return t.Says, true
		}
	}
	return api.Expr{}, false
}

// faultOf returns the error of the step with a number.
func (r *reading) faultOf(number int) api.Errno {
	if fault := reasonOf(r.unit.Steps[number-1]).fault(r, number); fault != api.OK {
		return fault
	}
	if r.isLast(number) && !expr.Same(r.says(number), r.unit.States) {
		return api.ErrStates
	}
	return api.OK
}
