package expr

import (
	"slices"

	"relyguard/api"
)

// Simplify returns an equivalent expression that is not larger.
func Simplify(e api.Expr) api.Expr {
	if !isWellFormed(e) {
		return api.Expr{}
	}
	return rebuilt(e, reduced)
}

// reduced returns what the first rule that applies makes of a node with simplified kids.
func reduced(e api.Expr) api.Expr {
	switch {
	case len(e.Kids) == 0:
		return e
	case !slices.ContainsFunc(e.Kids, isNoConstant):
		return constant(value(&e, nil, nil), e.W)
	case e.Op == api.OpNot:
		return negation(e.Kids[0])
	case e.Op == api.OpIte:
		return reducedChoice(e, e.Kids[0], e.Kids[1], e.Kids[2])
	case e.Op == api.OpEq, e.Op == api.OpLt, e.Op == api.OpLe:
		return reducedComparison(e, e.Kids[0], e.Kids[1])
	}
	return reducedOperation(e, e.Kids[0], e.Kids[1])
}

func isNoConstant(e api.Expr) bool { return e.Op != api.OpConst }

// reducedOperation applies the rules of the operators with two operands of the width of the node. At most one of these is a constant, so that no two rules for a node contradict each other.
func reducedOperation(e, a, b api.Expr) api.Expr {
	zero, ones := 0, masks[e.W]
	switch e.Op {
	case api.OpOr:
		zero, ones = ones, zero
		fallthrough
	case api.OpAnd:
		switch {
		case isConstant(&a, zero), isConstant(&b, ones), equal(&a, &b):
			return a
		case isConstant(&b, zero), isConstant(&a, ones):
			return b
		}
	case api.OpXor:
		if equal(&a, &b) {
			return constant(0, e.W)
		}
		fallthrough
	case api.OpAdd:
		switch {
		case isConstant(&b, 0):
			return a
		case isConstant(&a, 0):
			return b
		}
	case api.OpSub:
		switch {
		case isConstant(&b, 0):
			return a
		case equal(&a, &b):
			return constant(0, e.W)
		}
	case api.OpMul:
		switch {
		case isConstant(&a, 0), isConstant(&b, 1):
			return a
		case isConstant(&b, 0), isConstant(&a, 1):
			return b
		}
	}
	return e
}

func reducedComparison(e, a, b api.Expr) api.Expr {
	isSame := equal(&a, &b)
	switch e.Op {
	case api.OpEq:
		switch {
		case isSame:
			return constant(1, 1)
		case a.W == 1:
			return reducedEquivalence(e, a, b)
		}
	case api.OpLt:
		if isSame || isConstant(&b, 0) {
			return constant(0, 1)
		}
	case api.OpLe:
		if isSame || isConstant(&a, 0) || isConstant(&b, masks[b.W]) {
			return constant(1, 1)
		}
	}
	return e
}

// reducedEquivalence applies the rules of OpEq for different truth values.
func reducedEquivalence(e, a, b api.Expr) api.Expr {
	switch {
	case isConstant(&a, 1):
		return b
	case isConstant(&b, 1):
		return a
	case isConstant(&a, 0):
		return negation(b)
	case isConstant(&b, 0):
		return negation(a)
	}
	return e
}

// reducedChoice applies the rules of OpIte.
func reducedChoice(e, a, b, c api.Expr) api.Expr {
	switch {
	case isConstant(&a, 1), equal(&b, &c):
		return b
	case isConstant(&a, 0):
		return c
	case e.W == 1 && isConstant(&b, 1) && isConstant(&c, 0):
		return a
	case e.W == 1 && isConstant(&b, 0) && isConstant(&c, 1):
		return negation(a)
	}
	return e
}
