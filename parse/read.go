package parse

import "organon/api"

// reader goes through the tokens of a text.
type reader struct {
	tokens []api.Token
	next   int
	length int // of the text, in bytes

	// Of all nodes that were begun so far: their number, and the greatest depth.
	size, deepest int
}

// read returns the expression that the whole of s is by one rule of the grammar.
func read(s string, rule func(*reader, int) api.Expr) api.Expr {
	r := &reader{tokens: cut(s), length: len(s)}
	e := rule(r, 1)
	if r.next < len(r.tokens) {
		panic(r.refusal())
	}
	if code := r.excess(); code != api.OK {
		panic(fault{code, 0})
	}
	return e
}

// formula reads a formula whose root has that depth.
func (r *reader) formula(depth int) api.Expr {
	r.begin(depth)
	first := r.peek()
	switch first.Kind {
	case api.TokPred:
		r.next++
		return r.node(api.Atom, first.N, r.arguments(depth)...)
	case api.TokVar, api.TokFunc:
		left := r.term(depth + 1)
		r.expect('=')
		right := r.term(depth + 1)
		return r.node(api.Eq, 0, left, right)
	case api.TokSign:
		return r.composed(first.N, depth)
	}
	panic(r.refusal())
}

// composed reads a formula that begins with a sign.
func (r *reader) composed(sign, depth int) api.Expr {
	switch sign {
	case '!':
		r.next++
		return r.node(api.Not, 0, r.formula(depth+1))
	case '@':
		r.next++
		return r.quantified(api.All, depth)
	case '?':
		r.next++
		return r.quantified(api.Some, depth)
	case '(':
		r.next++
		left := r.formula(depth + 1)
		kind := r.connective()
		right := r.formula(depth + 1)
		r.expect(')')
		return r.node(kind, 0, left, right)
	}
	panic(r.refusal())
}

// quantified reads the rest of a formula after its quantifier.
func (r *reader) quantified(kind, depth int) api.Expr {
	variable := r.peek()
	if variable.Kind != api.TokVar {
		panic(r.refusal())
	}
	r.next++
	return r.node(kind, variable.N, r.formula(depth+1))
}

// connective reads the sign between two formulas, and returns the Kind of the node that it makes.
func (r *reader) connective() int {
	kind := 0
	switch {
	case r.stands('>'):
		kind = api.Imp
	case r.stands('&'):
		kind = api.And
	case r.stands('|'):
		kind = api.Or
	default:
		panic(r.refusal())
	}
	r.next++
	return kind
}

// term reads a term whose root has that depth.
func (r *reader) term(depth int) api.Expr {
	r.begin(depth)
	first := r.peek()
	switch first.Kind {
	case api.TokVar:
		r.next++
		return r.node(api.Var, first.N)
	case api.TokFunc:
		r.next++
		return r.node(api.App, first.N, r.arguments(depth)...)
	}
	panic(r.refusal())
}

// arguments reads the terms in parentheses, if there are any, after a symbol of that depth.
func (r *reader) arguments(depth int) []api.Expr {
	if !r.stands('(') {
		return nil
	}
	r.next++
	list := []api.Expr{r.term(depth + 1)}
	for len(list) < api.MaxArgs && r.stands(',') {
		r.next++
		list = append(list, r.term(depth+1))
	}
	r.expect(')')
	return list
}

// peek returns the next token; behind the last one stands a token of no kind.
func (r *reader) peek() api.Token {
	if r.next < len(r.tokens) {
		return r.tokens[r.next]
	}
	return api.Token{At: r.length}
}

// stands reports whether the next token is that sign. (The number of a variable or a symbol may be a sign's byte.)
func (r *reader) stands(sign int) bool {
	t := r.peek()
	return t.Kind == api.TokSign && t.N == sign
}

// expect reads a sign, the only token that can stand there.
func (r *reader) expect(sign int) {
	if !r.stands(sign) {
		panic(r.refusal())
	}
	r.next++
}

// refusal is the fault to raise if the next token can't stand where it does.
func (r *reader) refusal() fault {
	return fault{api.ErrToken, r.peek().At}
}

// begin counts a node of that depth.
func (r *reader) begin(depth int) {
	r.size++
	r.deepest = max(r.deepest, depth)
}

// excess returns the error of an expression with all nodes that were begun so far.
func (r *reader) excess() api.Errno {
	switch {
	case r.size > api.MaxNodes:
		return api.ErrMany
	case r.deepest > api.MaxDepth:
		return api.ErrDeep
	}
	return api.OK
}

// node returns a node, or nothing as soon as there is too much for a valid expression:
// the tokens are still to be read to their end, but no larger expression is constructed.
func (r *reader) node(kind, id int, kids ...api.Expr) api.Expr {
	if r.excess() != api.OK {
		return api.Expr{}
	}
	return api.Expr{Kind: kind, Id: id, Kids: kids}
}
