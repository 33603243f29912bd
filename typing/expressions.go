package typing

import "relyguard/api"

// expr checks an expression with a width.
func (c *checker) expr(n api.Node, width int) {
	switch n.Kind {
	case api.NodeNumber:
		if !fits(n.N, width) {
			c.report(api.ErrWidth, n.At)
		}
	case api.NodeRef:
		c.ref(n, width)
	case api.NodeOld:
		c.report(c.placeOfOld(kid(n, 0)), n.At)
		c.expr(kid(n, 0), width)
	case api.NodeNot:
		c.expr(kid(n, 0), width)
	case api.NodeBinary:
		c.binary(n, width)
	case api.NodeCond:
		c.expr(kid(n, 0), 1)
		c.expr(kid(n, 1), width)
		c.expr(kid(n, 2), width)
	case api.NodeAll, api.NodeSome:
		c.quantifier(n, width)
	default:
		c.report(api.ErrPlace, n.At)
	}
}

func (c *checker) ref(n api.Node, width int) {
	m := c.meaning(n.Name)
	c.report(m.use(len(n.Kids) > 0, width), n.At)
	if len(n.Kids) > 0 {
		c.index(n.Kids[0], m.length)
	}
}

// use returns what is wrong with a reference, with or without an index.
func (m meaning) use(indexed bool, width int) api.Errno {
	switch {
	case m.kind == 0:
		return api.ErrName
	case indexed != (m.length > 0):
		return api.ErrIndex
	case m.kind == api.TargetBound && !fits(m.largest(), width), m.kind != api.TargetBound && m.width != width:
		return api.ErrWidth
	}
	return api.OK
}

// index checks the index of what has a number of elements (0 if it is no array).
func (c *checker) index(n api.Node, length int) {
	if length > 0 && c.isBeyond(n, length) {
		c.report(api.ErrIndex, n.At)
		return
	}
	c.expr(n, c.width(n, 0))
}

// isBeyond reports whether it is plain that some value of an index is that of no element.
func (c *checker) isBeyond(n api.Node, length int) bool {
	switch n.Kind {
	case api.NodeNumber:
		return !isWithin(n.N, 0, length-1)
	case api.NodeRef:
		m := c.meaning(n.Name)
		return m.kind == api.TargetBound && m.number > length
	}
	return false
}

// placeOfOld returns what is wrong with old, before its operand is checked. Only a shared variable has an old value; that a name denotes nothing is reported at the operand.
func (c *checker) placeOfOld(operand api.Node) api.Errno {
	kind := c.meaning(operand.Name).kind
	if !c.old || operand.Kind != api.NodeRef || kind != 0 && kind != api.TargetShared {
		return api.ErrPlace
	}
	return api.OK
}

func (c *checker) binary(n api.Node, width int) {
	left, right := kid(n, 0), kid(n, 1)
	switch classOf(n.Name) {
	case logical:
		c.truth(n, width)
		width = 1
	case comparison:
		c.truth(n, width)
		width = c.common(left, right)
	case unknown:
		c.report(api.ErrPlace, n.At)
		return
	}
	c.expr(left, width)
	c.expr(right, width)
}

// truth reports that an expression whose value is a truth value must have one bit.
func (c *checker) truth(n api.Node, width int) {
	if width != 1 {
		c.report(api.ErrWidth, n.At)
	}
}

func (c *checker) quantifier(n api.Node, width int) {
	switch {
	case width != 1:
		c.report(api.ErrWidth, n.At)
	case !isWithin(n.N, 0, api.MaxArray):
		c.report(api.ErrLimit, n.At)
	}
	outer := c.meaning(n.Name)
	c.meanings[n.Name] = meaning{kind: api.TargetBound, number: n.N}
	c.expr(kid(n, 0), 1)
	c.meanings[n.Name] = outer
}
