package unit

import (
	"slices"

	"organon/api"
	"organon/expr"
)

// A number in a text has at most so many digits, so that it is at most maxNumber.
const (
	maxDigits = 9
	maxNumber = 999999999
)

func isLetter(b byte) bool {
	return 'a' <= b && b <= 'z'
}

func isDigit(b byte) bool {
	return '0' <= b && b <= '9'
}

// citesFault returns the error of the first name that a unit can't cite there.
func citesFault(names []string) api.Errno {
	for i, name := range names {
		switch {
		case !Name(name):
			return api.ErrName
		case slices.Contains(names[:i], name):
			return api.ErrTwice
		case i >= api.MaxCites:
			return api.ErrLong
		}
	}
	return api.OK
}

// formulaFault returns the error of what is no formula that can be written.
func formulaFault(e api.Expr) api.Errno {
	if fault := expr.Right(e); fault != api.OK {
		return fault
	}
	switch {
	case !expr.IsFormula(e):
		return api.ErrSort
	case expr.Size(e) > api.MaxWrite:
		return api.ErrMany
	case expr.Depth(e) > api.MaxNest:
		return api.ErrDeep
	}
	return api.OK
}

// stepFault returns the error of a step with the given number.
func stepFault(s api.Step, number int) api.Errno {
	switch {
	case number > api.MaxSteps:
		return api.ErrLong
	case !isJustified(s):
		return api.ErrLine
	case s.By == api.ByCite && !Name(s.Cite):
		return api.ErrName
	}
	return formulaFault(s.Says)
}

// isJustified reports whether the fields of a step are those of its justification, but for the form of a cited name.
func isJustified(s api.Step) bool {
	switch s.By {
	case api.ByAxiom:
		return isNumber(s.A) && s.B == 0 && s.Cite == ""
	case api.ByDetach:
		return isNumber(s.A) && isNumber(s.B) && s.Cite == ""
	case api.ByGen:
		return isNumber(s.A) && isVariable(s.B) && s.Cite == ""
	case api.ByCite:
		return s.A == 0 && s.B == 0
	}
	return false
}

func isNumber(n int) bool {
	return 0 <= n && n <= maxNumber
}

func isVariable(n int) bool {
	return 0 <= n && n <= api.MaxVar
}
