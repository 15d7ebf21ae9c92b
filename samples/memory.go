package samples

import "organon/api"

// sign is written behind the lists of what Roomy returns.
const sign = 77

// Roomy returns a copy of e with spare capacity behind each list of Kids, in which something is written.
func Roomy(e api.Expr) api.Expr {
	kids := make([]api.Expr, 0, len(e.Kids)+1)
	for _, kid := range e.Kids {
		kids = append(kids, Roomy(kid))
	}
	kids[:cap(kids)][len(kids)] = Node(sign, sign)
	return Node(e.Kind, e.Id, kids...)
}

// Untouched reports whether e, which Roomy made, still has the given text and what was written behind each list.
func Untouched(e api.Expr, text string) bool {
	return Text(e) == text && signed(e)
}

func signed(e api.Expr) bool {
	if cap(e.Kids) != len(e.Kids)+1 || e.Kids[:cap(e.Kids)][len(e.Kids)].Kind != sign {
		return false
	}
	for _, kid := range e.Kids {
		if !signed(kid) {
			return false
		}
	}
	return true
}

// Lists returns all lists of Kids in the expressions, each with its spare capacity.
func Lists(all ...api.Expr) [][]api.Expr {
	var lists [][]api.Expr
	for _, e := range all {
		lists = append(lists, e.Kids[:cap(e.Kids)])
		lists = append(lists, Lists(e.Kids...)...)
	}
	return lists
}

// Apart reports whether no two lists in the expressions share memory. It overwrites all of them.
func Apart(all ...api.Expr) bool {
	lists := Lists(all...)
	n := 0
	for _, list := range lists {
		for i := range list {
			list[i] = Node(n, n)
			n++
		}
	}
	n = 0
	for _, list := range lists {
		for i := range list {
			if list[i].Id != n {
				return false
			}
			n++
		}
	}
	return true
}
