package expr

import "relyguard/api"

// masks are the largest numbers of each width.
var masks = [api.MaxWidth + 1]int{0, 1, 3, 7, 15, 31, 63, 127, 255}

func isWithin(n, least, most int) bool { return least <= n && n <= most }

func isWellFormed(e api.Expr) bool {
	nodes := 0
	return hasForm(&e, 1, &nodes)
}

// hasForm counts the nodes, so that it ends soon even where an expression has far too many of them.
func hasForm(e *api.Expr, depth int, nodes *int) bool {
	*nodes++
	if *nodes > api.MaxExpr || depth > api.MaxDepth || !hasRow(e) {
		return false
	}
	for i := range e.Kids {
		if !hasForm(&e.Kids[i], depth+1, nodes) {
			return false
		}
	}
	return true
}

// hasRow reports whether a node has a width and what its operator requires.
func hasRow(e *api.Expr) bool {
	if !isWithin(e.W, 1, api.MaxWidth) {
		return false
	}
	switch e.Op {
	case api.OpConst:
		return isWithin(e.N, 0, masks[e.W]) && haveWidths(e.Kids)
	case api.OpCell, api.OpOld:
		return isWithin(e.N, 0, api.MaxCells-1) && haveWidths(e.Kids)
	case api.OpNot:
		return e.N == 0 && haveWidths(e.Kids, e.W)
	case api.OpAnd, api.OpOr, api.OpXor, api.OpAdd, api.OpSub, api.OpMul:
		return e.N == 0 && haveWidths(e.Kids, e.W, e.W)
	case api.OpEq, api.OpLt, api.OpLe:
		return e.N == 0 && e.W == 1 && len(e.Kids) == 2 && e.Kids[0].W == e.Kids[1].W
	case api.OpIte:
		return e.N == 0 && haveWidths(e.Kids, 1, e.W, e.W)
	}
	return false
}

func haveWidths(kids []api.Expr, widths ...int) bool {
	if len(kids) != len(widths) {
		return false
	}
	for i, w := range widths {
		if kids[i].W != w {
			return false
		}
	}
	return true
}

// visit calls a function with each node, the node before its kids, until the function returns false. It reports whether it never did.
func visit(e *api.Expr, at func(n *api.Expr) bool) bool {
	if !at(e) {
		return false
	}
	for i := range e.Kids {
		if !visit(&e.Kids[i], at) {
			return false
		}
	}
	return true
}

func equal(a, b *api.Expr) bool {
	if a.Op != b.Op || a.W != b.W || a.N != b.N || len(a.Kids) != len(b.Kids) {
		return false
	}
	for i := range a.Kids {
		if !equal(&a.Kids[i], &b.Kids[i]) {
			return false
		}
	}
	return true
}
