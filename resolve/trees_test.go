package resolve_test

import (
	"slices"
	"strconv"

	"relyguard/api"
)

// chance is a linear congruence, so that every run tests the same.
type chance uint32

func (c *chance) below(n int) int {
	*c = *c*1664525 + 1013904223
	return int(*c>>8) % n
}

func (c *chance) of(list ...string) string { return list[c.below(len(list))] }

// at returns an offset. Offsets are not in the order of the nodes, so that they show what was reported where.
func (c *chance) at() int { return c.below(1000000) }

// number returns a number that often is too small or too large.
func (c *chance) number(most int) int {
	if c.below(12) == 0 {
		return []int{-1, most + 1, -1 << 63, 1<<63 - 1, 256, 255, 0}[c.below(7)]
	}
	return c.below(most + 1)
}

func (c *chance) width() int { return max(c.number(8), 1-c.below(8)/7) }

// name returns one of few names, so that many are taken; those of modules and of all others overlap, too.
func (c *chance) name() string {
	if c.below(60) == 0 {
		return c.of("", "M.a", "a.b", ".a", "M.", "a.b.c")
	}
	return c.of("a", "b", "c", "d", "e", "f", "g", "h", "M", "N")
}

func (c *chance) module() string { return c.of("M", "N", "O", "P", "Q", "R", "S", "a") }

func (c *chance) path() string {
	if c.below(2) == 0 {
		return c.name()
	}
	return c.module() + "." + c.name()
}

// node returns a node with fields that nothing should read.
func (c *chance) node(kind int, name string, kids ...api.Node) api.Node {
	return api.Node{Kind: kind, Name: name, Ghost: c.below(2) == 0, At: c.at(), Kids: kids}
}

func (c *chance) expr(size int) api.Node {
	if size == 0 || c.below(3) == 0 {
		return c.node(api.NodeRef, c.path(), c.some(1, c.small(api.NodeNumber))...)
	}
	return c.node(api.NodeBinary, "&&", c.expr(size-1), c.expr(size-1))
}

// some returns up to n nodes.
func (c *chance) some(n int, make func() api.Node) []api.Node {
	var list []api.Node
	for range c.below(n + 1) {
		list = append(list, make())
	}
	return list
}

func (c *chance) small(kind int) func() api.Node {
	return func() api.Node {
		n := c.node(kind, c.name())
		n.N = c.width()
		return n
	}
}

func (c *chance) statement(size int) api.Node {
	switch kind := c.below(6); {
	case kind == 0:
		return c.small(api.NodeLocal)()
	case kind == 1:
		return c.node(api.NodeCall, c.path(), c.some(2, func() api.Node { return c.expr(1) })...)
	case kind == 2 && size > 0:
		return c.node(api.NodeIf, "", c.expr(1), c.block(size-1), c.block(size-1))
	case kind == 3 && size > 0:
		return c.node(api.NodeWhile, "", c.expr(1), none, c.block(size-1))
	}
	return c.node(api.NodeAssert, "", c.expr(1))
}

func (c *chance) block(size int) api.Node {
	return c.node(api.NodeBlock, "", c.some(3, func() api.Node { return c.statement(size) })...)
}

func (c *chance) declaration() api.Node {
	switch c.below(10) {
	case 0:
		return c.node(api.NodeRecord, c.name(), c.some(4, c.small(api.NodeField))...)
	case 1, 2, 3:
		n := c.small(api.NodeShared)()
		n.Len, n.Init = c.number(8), c.number(3)
		if c.below(3) == 0 {
			n.Other = c.name()
		}
		return n
	case 4:
		return c.node(api.NodeLock, c.name(), c.expr(2))
	case 5:
		kind := api.NodeRely + c.below(2)
		return c.node(kind, "", c.expr(2))
	case 6:
		return c.node(api.NodeFrame, "", c.some(3, func() api.Node { return c.expr(0) })...)
	}
	n := c.node(api.NodeProc, c.name(), append(c.some(2, c.small(api.NodeParam)), c.block(2))...)
	if c.below(4) == 0 {
		n.Other = c.name()
	}
	return n
}

func (c *chance) thread() api.Node {
	n := c.node(api.NodeThread, c.name(), c.some(2, func() api.Node { return c.small(api.NodeNumber)() })...)
	n.Other, n.N = c.module()+"."+c.name(), c.below(3)
	return n
}

func (c *chance) source(size int) api.Node {
	return c.node(api.NodeSource, "", c.some(size, func() api.Node {
		if c.below(3) == 0 {
			return c.thread()
		}
		n := c.node(api.NodeModule, c.module(), c.some(size, c.declaration)...)
		n.Other = c.of("A", "B")
		return n
	})...)
}

// nodes returns pointers to all nodes of a tree.
func nodes(n *api.Node) []*api.Node {
	list := []*api.Node{n}
	for i := range n.Kids {
		list = append(list, nodes(&n.Kids[i])...)
	}
	return list
}

// twin returns a tree that shares nothing with another one.
func twin(n api.Node) api.Node {
	n.Kids = slices.Clone(n.Kids)
	for i := range n.Kids {
		n.Kids[i] = twin(n.Kids[i])
	}
	return n
}

// bend changes one node of a tree, most often to what no source can have.
func (c *chance) bend(tree *api.Node) {
	list := nodes(tree)
	n := list[c.below(len(list))]
	another := twin(*list[c.below(len(list))])
	i := c.below(len(n.Kids) + 1)
	switch c.below(9) {
	case 0:
		n.Kind = []int{c.below(9), 20 + c.below(16), 50 + c.below(14), -1, 1 << 40, api.NodeNone}[c.below(6)]
	case 1:
		n.Name = c.name()
	case 2:
		n.Other = c.path()
	case 3:
		n.N = c.number(8)
	case 4:
		n.Len, n.Init = c.number(8), c.number(255)
	case 5:
		n.Kids = slices.Delete(n.Kids, min(i, len(n.Kids)), min(i+1, len(n.Kids)))
	case 6:
		n.Kids = slices.Insert(n.Kids, i, another)
	case 7:
		*n = another
	case 8:
		n.Kids = append(n.Kids, c.declaration())
	}
}

// symbols returns declarations that no source can have.
func (c *chance) symbols() api.Symbols {
	var s api.Symbols
	index := func() int { return c.below(5) - 1 }
	for range c.below(4) {
		s.Modules = append(s.Modules, api.Module{Name: c.of("M", "N", "a", "")})
	}
	for range c.below(6) {
		s.Vars = append(s.Vars, api.Var{Name: c.name(), Module: index(), W: c.number(8)})
	}
	for range c.below(6) {
		p := api.Proc{Name: c.name(), Module: index()}
		for range c.below(3) {
			p.Params = append(p.Params, api.Var{Name: c.name(), Module: index()})
			p.Locals = append(p.Locals, api.Var{Name: c.name(), Module: index()})
		}
		for range c.below(3) * c.below(2) {
			p.Calls = append(p.Calls, c.number(4))
		}
		s.Procs = append(s.Procs, p)
	}
	return s
}

// calls returns procedures of one module that call each other; p calls what is in its list, in nested blocks, some of them with the qualified name, some twice.
func (c *chance) calls(list [][]int) api.Node {
	m := c.node(api.NodeModule, "M")
	for i, callees := range list {
		body := c.node(api.NodeBlock, "")
		for _, j := range callees {
			call := c.node(api.NodeCall, c.of("", "M.")+"p"+strconv.Itoa(j))
			body.Kids = append(body.Kids, call, c.node(api.NodeIf, "", c.expr(0), c.node(api.NodeBlock, "", call)))
		}
		m.Kids = append(m.Kids, c.node(api.NodeProc, "p"+strconv.Itoa(i), body))
	}
	return c.node(api.NodeSource, "", m)
}
