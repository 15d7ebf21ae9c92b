package schema

import (
	"organon/api"
	"organon/expr"
	"organon/free"
	"organon/subst"
)

func fillFirst(p api.Parts) (api.Expr, api.Errno) {
	a, b := p.List[0], p.List[1]
	return imp(a, imp(b, a)), api.OK
}

func fillSecond(p api.Parts) (api.Expr, api.Errno) {
	a, b, c := p.List[0], p.List[1], p.List[2]
	return imp(imp(a, imp(b, c)), imp(imp(a, b), imp(a, c))), api.OK
}

func fillThird(p api.Parts) (api.Expr, api.Errno) {
	a, b := p.List[0], p.List[1]
	return imp(imp(not(a), not(b)), imp(b, a)), api.OK
}

func fillFourth(p api.Parts) (api.Expr, api.Errno) {
	a, t := p.List[0], p.List[1]
	// Too many nodes come ahead of too deep ones, but of a result that is too deep Put does not tell how many it has.
	result := expr.Size(a) + occurrences(p.Var, a)*(expr.Size(t)-1)
	if 2+expr.Size(a)+result > api.MaxNodes {
		return api.Expr{}, api.ErrMany
	}
	b, fault := subst.Put(a, p.Var, t)
	if fault != api.OK {
		return api.Expr{}, fault
	}
	return imp(all(p.Var, a), b), api.OK
}

func fillFifth(p api.Parts) (api.Expr, api.Errno) {
	a, b, x := p.List[0], p.List[1], p.Var
	return imp(all(x, imp(a, b)), imp(a, all(x, b))), api.OK
}

func fillSixth(p api.Parts) (api.Expr, api.Errno) {
	return equality(p.List[0], p.List[0]), api.OK
}

func fillSeventh(p api.Parts) (api.Expr, api.Errno) {
	return imp(equality(p.List[0], p.List[1]), imp(p.List[2], p.List[3])), api.OK
}

func always(api.Parts) bool {
	return true
}

func sideOfFourth(p api.Parts) bool {
	is, _ := free.FreeFor(p.List[1], p.Var, p.List[0])
	return is
}

func sideOfFifth(p api.Parts) bool {
	is, _ := free.NotFree(p.Var, p.List[0])
	return is
}

func sideOfSeventh(p api.Parts) bool {
	return swapped(p.List[2], p.List[3], p.List[0], p.List[1])
}

// partsAt returns a function that takes the parts at the paths out of a formula; false: one of the paths leads nowhere.
func partsAt(paths ...[]int) func(e api.Expr) (api.Parts, bool) {
	return func(e api.Expr) (api.Parts, bool) {
		var p api.Parts
		for _, path := range paths {
			part, fault := expr.At(e, path)
			if fault != api.OK {
				return api.Parts{}, false
			}
			p.List = append(p.List, part)
		}
		return p, true
	}
}

func splitFourth(e api.Expr) (api.Parts, bool) {
	p, found := partsAt([]int{0, 0}, []int{1})(e)
	if !found {
		return api.Parts{}, false
	}
	p.Var = e.Kids[0].Id
	t, found := standing(p.Var, p.List[0], p.List[1])
	if !found {
		t = api.Expr{Kind: api.Var, Id: p.Var}
	}
	p.List[1] = t
	return p, true
}

func splitFifth(e api.Expr) (api.Parts, bool) {
	p, found := partsAt([]int{0, 0, 0}, []int{0, 0, 1})(e)
	if !found {
		return api.Parts{}, false
	}
	p.Var = e.Kids[0].Id
	return p, true
}

// standing returns the part of b at the place of a free occurrence of x in a, if there is one: the first that b has.
func standing(x int, a, b api.Expr) (api.Expr, bool) {
	switch {
	case isVariable(a) && a.Id == x:
		return b, true
	case isQuantifier(a) && a.Id == x:
		return api.Expr{}, false
	}
	for i := range min(len(a.Kids), len(b.Kids)) {
		if t, found := standing(x, a.Kids[i], b.Kids[i]); found {
			return t, true
		}
	}
	return api.Expr{}, false
}

// occurrences returns how many free occurrences x has in a.
func occurrences(x int, a api.Expr) int {
	switch {
	case isVariable(a) && a.Id == x:
		return 1
	case isQuantifier(a) && a.Id == x:
		return 0
	}
	count := 0
	for _, kid := range a.Kids {
		count += occurrences(x, kid)
	}
	return count
}
