package typing

import (
	"math/bits"

	"relyguard/api"
)

// Classes of operators.
const (
	unknown = iota
	logical
	comparison
	arithmetic
)

func classOf(operator string) int {
	switch operator {
	case "==>", "||", "&&":
		return logical
	case "==", "!=", "<", "<=":
		return comparison
	case "|", "^", "&", "+", "-", "*":
		return arithmetic
	}
	return unknown
}

// width returns the width of an expression for a requirement.
func (c *checker) width(n api.Node, want int) int {
	if want != 0 {
		return want
	}
	return c.common(n)
}

// common returns the width that operands have together: the first own width, or that in which the numbers in all of them fit, as far as there are such widths.
func (c *checker) common(operands ...api.Node) int {
	least := 0
	for _, n := range operands {
		if own := c.own(n); own != 0 {
			return own
		}
		least = max(least, c.least(n))
	}
	return min(least, api.MaxWidth)
}

// own returns the own width of an expression, or 0 if it has none.
func (c *checker) own(n api.Node) int {
	switch n.Kind {
	case api.NodeRef:
		return c.meaning(n.Name).width
	case api.NodeOld, api.NodeNot:
		return c.own(kid(n, 0))
	case api.NodeBinary:
		return c.ownOfBinary(n)
	case api.NodeCond:
		return c.firstOwn(kid(n, 1), kid(n, 2))
	case api.NodeAll, api.NodeSome:
		return 1
	}
	return 0
}

func (c *checker) ownOfBinary(n api.Node) int {
	switch classOf(n.Name) {
	case logical, comparison:
		return 1
	case arithmetic:
		return c.firstOwn(kid(n, 0), kid(n, 1))
	}
	return 0
}

func (c *checker) firstOwn(a, b api.Node) int {
	if own := c.own(a); own != 0 {
		return own
	}
	return c.own(b)
}

// least returns the least width of an expression.
func (c *checker) least(n api.Node) int {
	switch {
	case n.Kind == api.NodeNumber:
		return bitsOf(n.N)
	case n.Kind == api.NodeRef:
		return c.meaning(n.Name).least()
	case n.Kind == api.NodeOld, n.Kind == api.NodeNot:
		return c.least(kid(n, 0))
	case n.Kind == api.NodeBinary && classOf(n.Name) == arithmetic:
		return max(c.least(kid(n, 0)), c.least(kid(n, 1)))
	case n.Kind == api.NodeCond:
		return max(c.least(kid(n, 1)), c.least(kid(n, 2)))
	}
	return 1
}

func (m meaning) least() int {
	if m.kind == api.TargetBound {
		return bitsOf(m.largest())
	}
	return 1
}

// largest returns the largest value of a bound variable. It is 0 if there is none.
func (m meaning) largest() int { return max(m.number, 1) - 1 }

// bitsOf returns how many bits a number has, at least 1.
func bitsOf(n int) int {
	if n <= 0 {
		return 1
	}
	return bits.Len(uint(n))
}

func fits(n, width int) bool { return n >= 0 && bitsOf(n) <= width }
