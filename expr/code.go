package expr

import (
	"math"

	"organon/api"
	"organon/word"
)

// Encode returns the heads of all nodes of e, each node before its Kids.
func Encode(e api.Expr) ([]byte, api.Errno) {
	if fault := Right(e); fault != api.OK {
		return nil, fault
	}
	var b []byte
	for _, node := range nodes(e) {
		// The numbers of a valid node are within the bounds of a packed head.
		packed, _ := word.Pack(node.Kind, node.Id, len(node.Kids))
		b = append(b, word.Put(uint64(packed))...)
	}
	return b, api.OK
}

// Decode returns the expression whose encoding b is.
// ErrRest: b goes on after it; the error of Right: it is not valid.
func Decode(b []byte) (api.Expr, api.Errno) {
	heads, size, fault := readHeads(b)
	switch {
	case fault != api.OK:
		return api.Expr{}, fault
	case size < len(b):
		return api.Expr{}, api.ErrRest
	}
	e, _ := build(heads)
	if fault := Right(e); fault != api.OK {
		return api.Expr{}, fault
	}
	return e, api.OK
}

// readHeads returns the heads of the node at the beginning of b and of all below it, and how many bytes they are.
func readHeads(b []byte) ([]head, int, api.Errno) {
	var heads []head
	size := 0
	for missing := 1; missing > 0; missing-- {
		if len(heads) == api.MaxNodes {
			return nil, 0, api.ErrMany
		}
		packed, read, fault := word.Get(b[size:])
		if fault != api.OK {
			return nil, 0, fault
		}
		if packed > math.MaxUint32 {
			return nil, 0, api.ErrForm
		}
		kind, id, kids := word.Unpack(uint32(packed))
		heads = append(heads, head{kind, id, kids})
		size += read
		missing += kids
	}
	return heads, size, api.OK
}

// build returns the expression whose heads come first in the list, and the heads after it.
func build(heads []head) (api.Expr, []head) {
	top, rest := heads[0], heads[1:]
	e := api.Expr{Kind: top.kind, Id: top.id}
	if top.kids > 0 {
		e.Kids = make([]api.Expr, top.kids)
	}
	for i := range e.Kids {
		e.Kids[i], rest = build(rest)
	}
	return e, rest
}
