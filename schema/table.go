package schema

import (
	"organon/api"
	"organon/expr"
)

// sort reports whether an expression is valid and of one of the two sorts.
type sort func(e api.Expr) bool

// schema is a row of the chapter's table.
type schema struct {
	number int
	sorts  []sort // those of the parts in List
	named  bool   // whether a variable is one of the parts
	// fill returns the formula with the given parts, which may hold their memory and may be too large; an error: it can't
	// be built.
	fill func(p api.Parts) (api.Expr, api.Errno)
	side func(p api.Parts) bool
	// split returns the only parts with which a formula may be an instance; false: it is none.
	split func(e api.Expr) (api.Parts, bool)
}

// schemas returns the table, in the order of the numbers.
func schemas() []schema {
	formula, term := expr.IsFormula, expr.IsTerm
	return []schema{
		{
			number: 1, sorts: []sort{formula, formula},
			fill: fillFirst, side: always, split: partsAt([]int{0}, []int{1, 0}),
		},
		{
			number: 2, sorts: []sort{formula, formula, formula},
			fill: fillSecond, side: always, split: partsAt([]int{0, 0}, []int{0, 1, 0}, []int{0, 1, 1}),
		},
		{
			number: 3, sorts: []sort{formula, formula},
			fill: fillThird, side: always, split: partsAt([]int{1, 1}, []int{1, 0}),
		},
		{
			number: 4, sorts: []sort{formula, term}, named: true,
			fill: fillFourth, side: sideOfFourth, split: splitFourth,
		},
		{
			number: 5, sorts: []sort{formula, formula}, named: true,
			fill: fillFifth, side: sideOfFifth, split: splitFifth,
		},
		{
			number: 6, sorts: []sort{term},
			fill: fillSixth, side: always, split: partsAt([]int{0}),
		},
		{
			number: 7, sorts: []sort{term, term, formula, formula},
			fill: fillSeventh, side: sideOfSeventh, split: partsAt([]int{0, 0}, []int{0, 1}, []int{1, 0}, []int{1, 1}),
		},
	}
}

// search returns the first row of a table that is wanted, if there is one.
func search[Row any](table []Row, wanted func(Row) bool) (Row, bool) {
	for _, row := range table {
		if wanted(row) {
			return row, true
		}
	}
	var none Row
	return none, false
}

// numbered returns schema k, if there is one.
func numbered(k int) (schema, bool) {
	return search(schemas(), func(s schema) bool { return s.number == k })
}

// faultOf returns the error of parts that are not such as the schema has, whatever its side condition.
func (s schema) faultOf(p api.Parts) api.Errno {
	switch {
	case len(p.List) != len(s.sorts), p.Var < 0, p.Var > api.MaxVar, p.Var != 0 && !s.named:
		return api.ErrParts
	}
	return listFault(p.List, s.sorts)
}

// partsOf returns the parts with which the formula e is an instance, if it is one.
func (s schema) partsOf(e api.Expr) (api.Parts, bool) {
	p, found := s.split(e)
	if !found {
		return api.Parts{}, false
	}
	// Only valid expressions are the same: parts of other sorts fill the schema with none.
	instance, fault := s.fill(p)
	if fault != api.OK || !expr.Same(instance, e) || !s.side(p) {
		return api.Parts{}, false
	}
	return p, true
}

// listFault returns the error of the first expression that is not valid, and otherwise ErrSort if one is not of its sort.
func listFault(list []api.Expr, sorts []sort) api.Errno {
	wrong, is := search(list, func(e api.Expr) bool { return expr.Right(e) != api.OK })
	if is {
		return expr.Right(wrong)
	}
	for i, e := range list {
		if !sorts[i](e) {
			return api.ErrSort
		}
	}
	return api.OK
}

// formulaFault returns the error of an expression that must be a formula.
func formulaFault(e api.Expr) api.Errno {
	return listFault([]api.Expr{e}, []sort{expr.IsFormula})
}
