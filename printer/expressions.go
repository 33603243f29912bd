package printer

import (
	"strconv"

	"relyguard/api"
)

// The levels of other expressions than binary ones, and that of ==>.
const (
	levelQuantifier = 0
	levelCond       = 1
	levelImplies    = 2
	levelNot        = 11
	levelClosed     = 12
)

// operator is a binary operator with its level and the levels that its two operands are required to have.
type operator struct {
	text               string
	level, left, right int
}

var operators = [...]operator{
	{"==>", levelImplies, 3, levelImplies},
	{"||", 3, 3, 4},
	{"&&", 4, 4, 5},
	{"==", 5, 6, 6},
	{"!=", 5, 6, 6},
	{"<", 5, 6, 6},
	{"<=", 5, 6, 6},
	{"|", 6, 6, 7},
	{"^", 7, 7, 8},
	{"&", 8, 8, 9},
	{"+", 9, 9, 10},
	{"-", 9, 9, 10},
	{"*", 10, 10, levelNot},
}

func operatorOf(text string) operator {
	for _, o := range operators {
		if o.text == text {
			return o
		}
	}
	return operator{}
}

func level(n api.Node) int {
	switch n.Kind {
	case api.NodeAll, api.NodeSome:
		return levelQuantifier
	case api.NodeCond:
		return levelCond
	case api.NodeBinary:
		return operatorOf(n.Name).level
	case api.NodeNot:
		return levelNot
	}
	return levelClosed
}

// operand returns the text of an expression where a level is required.
func operand(n api.Node, required int) string {
	if level(n) < required {
		return "(" + expr(n) + ")"
	}
	return expr(n)
}

// expr returns the text of an expression where any level will do.
func expr(n api.Node) string {
	quantifier := "some"
	switch n.Kind {
	case api.NodeNumber:
		return decimal(n.N)
	case api.NodeRef:
		return ref(n)
	case api.NodeOld:
		return "old" + tuple(expr(n.Kids[0]))
	case api.NodeNot:
		return "!" + operand(n.Kids[0], levelNot)
	case api.NodeBinary:
		o := operatorOf(n.Name)
		return words(operand(n.Kids[0], o.left), o.text, operand(n.Kids[1], o.right))
	case api.NodeCond:
		return words(operand(n.Kids[0], levelImplies), "?", operand(n.Kids[1], levelCond), ":", operand(n.Kids[2], levelCond))
	case api.NodeAll:
		quantifier = "all"
		fallthrough
	case api.NodeSome:
		return words(quantifier, n.Name, "<", decimal(n.N), ":", expr(n.Kids[0]))
	}
	return ""
}

func ref(n api.Node) string {
	if len(n.Kids) == 0 {
		return n.Name
	}
	return n.Name + "[" + expr(n.Kids[0]) + "]"
}

func decimal(n int) string { return strconv.Itoa(n) }
