package expr

import "relyguard/api"

// And returns the conjunction of expressions of one bit.
func And(list []api.Expr) api.Expr { return connected(api.OpAnd, 0, list) }

// Or returns the disjunction of expressions of one bit.
func Or(list []api.Expr) api.Expr { return connected(api.OpOr, 1, list) }

// connected joins conditions with an operator whose result is decided by one constant; the other constant is left out.
func connected(op, decisive int, list []api.Expr) api.Expr {
	for _, e := range list {
		if !isCondition(e) {
			return api.Expr{}
		}
	}
	neutral := 1 - decisive
	return checked(fold(list, constant(neutral, 1), func(left, e api.Expr) api.Expr {
		switch {
		case isConstant(&left, decisive), isConstant(&e, neutral):
			return left
		case isConstant(&e, decisive), isConstant(&left, neutral):
			return e
		}
		return node(op, 1, left, e)
	}))
}

// fold joins the elements of a list to a first value, from the left.
func fold[E, V any](list []E, first V, join func(left V, element E) V) V {
	for _, element := range list {
		first = join(first, element)
	}
	return first
}

// Implies returns an expression that is 1 if a is 0 or b is 1.
func Implies(a, b api.Expr) api.Expr {
	switch {
	case !isCondition(a) || !isCondition(b):
		return api.Expr{}
	case isConstant(&a, 0), isConstant(&b, 1):
		return constant(1, 1)
	case isConstant(&a, 1):
		return checked(b)
	case isConstant(&b, 0):
		return checked(negation(a))
	}
	return checked(node(api.OpOr, 1, negation(a), b))
}

// isCondition reports whether an expression is well-formed and has one bit.
func isCondition(e api.Expr) bool { return e.W == 1 && isWellFormed(e) }
