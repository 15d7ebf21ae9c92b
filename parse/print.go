package parse

import (
	"strconv"
	"strings"

	"organon/api"
)

// write writes the text of e, which is valid.
func write(text *strings.Builder, e api.Expr) {
	switch e.Kind {
	case api.Var:
		writeSymbol(text, 'x', e)
	case api.App:
		writeSymbol(text, 'f', e)
	case api.Atom:
		writeSymbol(text, 'P', e)
	case api.Eq:
		writeBetween(text, " = ", e)
	case api.Not:
		text.WriteByte('!')
		write(text, e.Kids[0])
	case api.All:
		writeQuantified(text, '@', e)
	case api.Some:
		writeQuantified(text, '?', e)
	case api.Imp:
		writeInParentheses(text, " > ", e)
	case api.And:
		writeInParentheses(text, " & ", e)
	case api.Or:
		writeInParentheses(text, " | ", e)
	}
}

// writeSymbol writes a variable, or a symbol with its arguments.
func writeSymbol(text *strings.Builder, letter byte, e api.Expr) {
	writeNumbered(text, letter, e.Id)
	if len(e.Kids) == 0 {
		return
	}
	before := "("
	for _, kid := range e.Kids {
		text.WriteString(before)
		write(text, kid)
		before = ", "
	}
	text.WriteByte(')')
}

func writeNumbered(text *strings.Builder, letter byte, id int) {
	text.WriteByte(letter)
	text.WriteString(strconv.Itoa(id))
}

func writeQuantified(text *strings.Builder, sign byte, e api.Expr) {
	text.WriteByte(sign)
	writeNumbered(text, 'x', e.Id)
	text.WriteByte(' ')
	write(text, e.Kids[0])
}

func writeInParentheses(text *strings.Builder, sign string, e api.Expr) {
	text.WriteByte('(')
	writeBetween(text, sign, e)
	text.WriteByte(')')
}

// writeBetween writes the two Kids of e with a sign between them.
func writeBetween(text *strings.Builder, sign string, e api.Expr) {
	write(text, e.Kids[0])
	text.WriteString(sign)
	write(text, e.Kids[1])
}
