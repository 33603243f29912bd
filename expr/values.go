package expr

import "relyguard/api"

// value returns the value of a well-formed expression.
func value(e *api.Expr, old, now []int) int {
	mask := masks[e.W]
	switch e.Op {
	case api.OpConst:
		return e.N
	case api.OpOld:
		now = old
		fallthrough
	case api.OpCell:
		return element(now, e.N) & mask
	case api.OpNot:
		return ^value(&e.Kids[0], old, now) & mask
	case api.OpIte:
		if value(&e.Kids[0], old, now) == 1 {
			return value(&e.Kids[1], old, now)
		}
		return value(&e.Kids[2], old, now)
	}
	return combined(e.Op, value(&e.Kids[0], old, now), value(&e.Kids[1], old, now)) & mask
}

// element returns the value of a cell in a state, or 0 if the state does not have it.
func element(state []int, cell int) int {
	if cell < len(state) {
		return state[cell]
	}
	return 0
}

// combined returns the result of an operator with two operands before it is cut to its width.
func combined(op, a, b int) int {
	switch op {
	case api.OpAnd:
		return a & b
	case api.OpOr:
		return a | b
	case api.OpXor:
		return a ^ b
	case api.OpSub:
		b = -b
		fallthrough
	case api.OpAdd:
		return a + b
	case api.OpMul:
		return a * b
	case api.OpEq:
		return bit(a == b)
	case api.OpLt:
		return bit(a < b)
	}
	return bit(a <= b)
}

func bit(isTrue bool) int {
	if isTrue {
		return 1
	}
	return 0
}
