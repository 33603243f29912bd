package expr

import (
	"slices"

	"relyguard/api"
)

func constant(n, w int) api.Expr { return api.Expr{Op: api.OpConst, W: w, N: n} }

// isConstant reports whether an expression is the constant n of its width.
func isConstant(e *api.Expr, n int) bool { return e.Op == api.OpConst && e.N == n }

func node(op, w int, kids ...api.Expr) api.Expr { return api.Expr{Op: op, W: w, Kids: kids} }

// negation returns an expression that shares the operands of its argument.
func negation(e api.Expr) api.Expr {
	if e.Op == api.OpNot {
		return e.Kids[0]
	}
	return node(api.OpNot, e.W, e)
}

// rebuilt returns a copy of an expression in which each node, the kids before the node, is replaced by what a function returns for it.
func rebuilt(e api.Expr, replace func(n api.Expr) api.Expr) api.Expr {
	kids := slices.Grow([]api.Expr(nil), len(e.Kids))
	for _, kid := range e.Kids {
		kids = append(kids, rebuilt(kid, replace))
	}
	e.Kids = kids
	return replace(e)
}

// checked returns a copy of an expression that may share parts with others, or the zero expression if it is not well-formed.
func checked(e api.Expr) api.Expr {
	if !isWellFormed(e) {
		return api.Expr{}
	}
	return rebuilt(e, func(n api.Expr) api.Expr { return n })
}
