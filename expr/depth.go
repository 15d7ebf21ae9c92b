package expr

import "organon/api"

// place says where a list of Kids is in memory.
type place struct {
	first *api.Expr
	count int
}

// heights says how many nodes are nested in each other in a list of Kids that was examined.
type heights map[place]int

// depthOfMany is Depth for more than MaxNodes nodes.
// Such an expression may hold one list of Kids in many places, or within itself, so that going
// over its nodes would not end in time. Each list is examined once; no place is seen in the result.
func depthOfMany(e api.Expr) int {
	return min(1+heights{}.of(e.Kids, 2), api.MaxDepth+1)
}

// of returns the height of a list of Kids whose nodes have the given depth.
// It stops once a node is found that is deeper than MaxDepth: then the sum of depth and height
// says so here and in all calls around this one.
func (h heights) of(kids []api.Expr, depth int) int {
	if len(kids) == 0 {
		return 0
	}
	if depth > api.MaxDepth {
		return 1
	}
	here := place{&kids[0], len(kids)}
	if height, known := h[here]; known {
		return height
	}
	below := 0
	for _, kid := range kids {
		below = max(below, h.of(kid.Kids, depth+1))
		if depth+below > api.MaxDepth {
			break
		}
	}
	h[here] = 1 + below
	return 1 + below
}
