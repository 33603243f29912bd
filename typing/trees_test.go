package typing_test

import (
	"slices"

	"relyguard/api"
)

// chance is a linear congruence, so that every run tests the same.
type chance uint32

func (c *chance) below(n int) int {
	*c = *c*1664525 + 1013904223
	return int(*c>>8) % n
}

func (c *chance) of(list ...string) string { return list[c.below(len(list))] }

// number returns a number up to most, but now and then one that is too small or too large.
func (c *chance) number(most int) int {
	if c.below(40) == 0 {
		return []int{-1, most + 1, -1 << 63, 1<<63 - 1, 256, 255, 9}[c.below(7)]
	}
	return c.below(most + 1)
}

// name returns one of few names, so that some are declared several times, and some hide others.
func (c *chance) name() string { return c.of("a", "b", "c", "d", "e", "f", "x.a", "M.a", "i", "j") }

func (c *chance) path() string {
	if c.below(2) == 0 {
		return c.name()
	}
	return c.of("M", "N", "O") + "." + c.name()
}

// node returns a node with an offset of its own, and with fields that nothing should read.
func (c *chance) node(kind int, name string, kids ...api.Node) api.Node {
	return api.Node{Kind: kind, Name: name, Other: c.of("", "a"), Len: c.below(3), Init: c.below(3), Ghost: c.below(2) == 0, At: c.below(1 << 24), Kids: kids}
}

func (c *chance) numbered(kind int, name string, n int, kids ...api.Node) api.Node {
	x := c.node(kind, name, kids...)
	x.N = n
	return x
}

func (c *chance) variables(count, modules, arrays int) []api.Var {
	var list []api.Var
	for range count {
		v := api.Var{Name: c.name(), W: 1 + c.below(1+c.below(8)), Module: c.below(modules), Init: c.below(3), Ghost: c.below(2) == 0, At: c.below(999)}
		if c.below(100) < arrays {
			v.Len = 1 + c.below(8)
		}
		list = append(list, v)
	}
	return list
}

// declarations returns usable symbols without conditions and bodies, also ones that no source has.
func (c *chance) declarations() api.Symbols {
	var s api.Symbols
	for range 1 + c.below(3) {
		s.Modules = append(s.Modules, api.Module{Name: c.of("M", "N", "O"), Rely: c.node(api.NodeNone, ""), Guar: c.node(api.NodeNone, "")})
	}
	modules := len(s.Modules)
	s.Vars = c.variables(3+c.below(9), modules, 40)
	for range c.below(4) {
		s.Locks = append(s.Locks, api.LockDecl{Name: c.name(), Module: c.below(modules), Inv: c.node(api.NodeNone, "")})
	}
	for range 1 + c.below(4) {
		p := api.Proc{Name: c.name(), Module: c.below(modules), Params: c.variables(c.below(4), 9, 9), Locals: c.variables(c.below(3), 9, 9)}
		p.Body = c.node(api.NodeNone, "")
		s.Procs = append(s.Procs, p)
	}
	for range c.below(3) {
		s.Threads = append(s.Threads, api.ThreadDecl{Name: c.name()})
	}
	return s
}

// symbols returns usable symbols. Most of what they contain is right.
func (c *chance) symbols(size int) api.Symbols {
	s := c.declarations()
	for i := range s.Modules {
		p := place{s: s, module: i, proc: -1, old: true}
		m := &s.Modules[i]
		m.Rely, m.Guar = c.condition(p, size), c.condition(p, size)
		for range c.below(4) {
			m.Frame = append(m.Frame, c.node(api.NodeRef, c.shared(p), c.several(c.below(10)/9, func() api.Node { return c.expr(p, 1, 0) })...))
		}
	}
	for i := range s.Locks {
		s.Locks[i].Inv = c.condition(place{s: s, module: s.Locks[i].Module, proc: -1}, size)
	}
	for i := range s.Procs {
		s.Procs[i].Body = c.block(place{s: s, module: s.Procs[i].Module, proc: i}, size)
	}
	return s
}

func (c *chance) several(n int, make func() api.Node) []api.Node {
	var list []api.Node
	for range n {
		list = append(list, make())
	}
	return list
}

// places returns all contexts of symbols without bound variables.
func places(s api.Symbols) []place {
	var list []place
	for i := range s.Modules {
		list = append(list, place{s: s, module: i, proc: -1, old: true})
	}
	for i, p := range s.Procs {
		list = append(list, place{s: s, module: p.Module, proc: i})
	}
	return list
}

// fitting returns a path whose meaning has a property, if one is soon found.
func (c *chance) fitting(p place, has func(d denoted) bool) (string, bool) {
	for range 20 {
		path := c.path()
		if has(p.denotes(path)) {
			return path, true
		}
	}
	return c.path(), false
}

func (c *chance) shared(p place) string {
	p.proc = -1
	path, _ := c.fitting(p, func(d denoted) bool { return d.shared })
	return path
}

// ref returns a reference to a variable of a width, or a number if none is found.
func (c *chance) ref(p place, w, size int, has func(d denoted) bool) api.Node {
	path, ok := c.fitting(p, func(d denoted) bool {
		return has(d) && (d.declared() && d.v.W == w || d.bound && numberFits(max(d.number, 1)-1, w))
	})
	if !ok {
		return c.numbered(api.NodeNumber, "", c.below(1<<w))
	}
	n := c.node(api.NodeRef, path)
	if length := p.denotes(path).v.Len; length > 0 {
		n.Kids = []api.Node{c.index(p, length, size)}
	}
	return n
}

func (c *chance) index(p place, length, size int) api.Node {
	path, ok := c.fitting(p, func(d denoted) bool { return d.bound && d.number <= length })
	switch kind := c.below(4); {
	case kind < 2 && ok:
		return c.node(api.NodeRef, path)
	case kind == 3 && size > 0:
		return c.expr(p, 1+c.below(3), size-1)
	}
	return c.numbered(api.NodeNumber, "", c.below(length))
}

// expr returns an expression of a width in a context.
func (c *chance) expr(p place, w, size int) api.Node {
	if c.below(200) == 0 {
		w = 1 + c.below(8)
	}
	all := func(denoted) bool { return true }
	kind := c.below(12)
	switch {
	case size == 0 && kind < 4, kind == 0:
		return c.numbered(api.NodeNumber, "", c.number(1<<w-1))
	case size == 0, kind < 4:
		return c.ref(p, w, size, all)
	case kind == 4 && p.old:
		kid := c.ref(p, w, size, func(d denoted) bool { return d.shared })
		if !is(kid, api.NodeRef) {
			return kid
		}
		return c.node(api.NodeOld, "", kid)
	case kind == 5:
		return c.node(api.NodeNot, "", c.expr(p, w, size-1))
	case kind == 6:
		return c.node(api.NodeCond, "", c.expr(p, 1, size-1), c.expr(p, w, size-1), c.expr(p, w, size-1))
	case kind < 9 && w == 1:
		return c.truth(p, size)
	}
	return c.node(api.NodeBinary, c.of("|", "^", "&", "+", "-", "*"), c.expr(p, w, size-1), c.expr(p, w, size-1))
}

// truth returns an expression whose value is a truth value.
func (c *chance) truth(p place, size int) api.Node {
	switch c.below(3) {
	case 0:
		return c.node(api.NodeBinary, c.of("==>", "||", "&&"), c.expr(p, 1, size-1), c.expr(p, 1, size-1))
	case 1:
		v := 1 + c.below(8)
		return c.node(api.NodeBinary, c.of("==", "!=", "<", "<="), c.expr(p, v, size-1), c.expr(p, v, size-1))
	}
	n := c.numbered(api.NodeAll+c.below(2), c.name(), c.number(8)+c.below(10)/9*9)
	n.Kids = []api.Node{c.expr(p.binding(n.Name, n.N), 1, size-1)}
	return n
}

func (c *chance) condition(p place, size int) api.Node {
	if c.below(5) == 0 {
		return c.node(api.NodeNone, "")
	}
	return c.expr(p, 1, size)
}

// assignment returns a reference and an expression.
func (c *chance) assignment(p place, size int) []api.Node {
	path, _ := c.fitting(p, denoted.declared)
	v := p.denotes(path).v
	target := c.node(api.NodeRef, path)
	if v.Len > 0 {
		target.Kids = []api.Node{c.index(p, v.Len, size)}
	}
	return []api.Node{target, c.expr(p, max(1, v.W), size)}
}

func (c *chance) assignments(p place, size, count int) []api.Node {
	var list []api.Node
	for range count {
		list = append(list, c.assignment(p, size)...)
	}
	return list
}

func (c *chance) cas(p place, size int) api.Node {
	w := 1 + c.below(3)
	shared := c.ref(p, w, size, func(d denoted) bool { return d.shared })
	into := c.ref(p, 1, size, denoted.declared)
	kids := []api.Node{shared, c.expr(p, w, size), c.expr(p, w, size), into}
	return c.node(api.NodeCas, "", append(kids, c.assignments(p, size, c.below(2))...)...)
}

func (c *chance) call(p place, size int) api.Node {
	callee := p.s.Procs[c.below(len(p.s.Procs))]
	n := c.node(api.NodeCall, p.s.Modules[callee.Module].Name+"."+callee.Name)
	for _, v := range callee.Params {
		n.Kids = append(n.Kids, c.expr(p, v.W, size))
	}
	if c.below(6) == 0 {
		n.Kids = append(n.Kids, c.expr(p, 1, size))
	}
	return n
}

// named returns a statement with the name of a lock or a thread.
func (c *chance) named(p place) api.Node {
	n := c.node(c.below(4)+api.NodeAcquire, c.name())
	if n.Kind == api.NodeFence {
		n.Kind = api.NodeJoin
	}
	if is(n, api.NodeAcquire, api.NodeFree) && len(p.s.Locks) > 0 && c.below(4) > 0 {
		n.Name = p.s.Locks[c.below(len(p.s.Locks))].Name
	}
	if is(n, api.NodeSpawn, api.NodeJoin) && len(p.s.Threads) > 0 && c.below(4) > 0 {
		n.Name = p.s.Threads[c.below(len(p.s.Threads))].Name
	}
	return n
}

func (c *chance) statement(p place, size int) api.Node {
	small := max(size-1, 0)
	switch c.below(12) {
	case 0:
		return c.node(api.NodeAssert, "", c.expr(p, 1, size))
	case 1:
		return c.node(api.NodeAwait, "", c.expr(p, 1, size))
	case 2, 3:
		return c.node(api.NodeAssign, "", c.assignments(p, size, 1+c.below(2))...)
	case 4:
		return c.node(api.NodeAtomic, "", append([]api.Node{c.condition(p, size)}, c.assignments(p, size, c.below(3))...)...)
	case 5:
		return c.cas(p, size)
	case 6:
		return c.call(p, size)
	case 7:
		return c.named(p)
	case 8:
		kind := []int{api.NodeFence, api.NodeSkip, api.NodeLocal, api.NodeNone}[c.below(4)]
		return c.node(kind, c.name(), c.several(c.below(2), func() api.Node { return c.node(api.NodeShared, "") })...)
	case 9:
		return c.node(api.NodeIf, "", c.expr(p, 1, size), c.block(p, small), c.block(p, small))
	case 10:
		variant := c.node(api.NodeNone, "")
		if c.below(2) == 0 {
			variant = c.expr(p, 1+c.below(4), size)
		}
		return c.node(api.NodeWhile, "", c.expr(p, 1, size), variant, c.block(p, small))
	}
	return c.block(p, small)
}

func (c *chance) block(p place, size int) api.Node {
	if size == 0 {
		return c.node(api.NodeBlock, "")
	}
	return c.node(api.NodeBlock, "", c.several(c.below(4), func() api.Node { return c.statement(p, size) })...)
}

// nodes returns pointers to all nodes of a tree.
func nodes(n *api.Node) []*api.Node {
	list := []*api.Node{n}
	for i := range n.Kids {
		list = append(list, nodes(&n.Kids[i])...)
	}
	return list
}

// trees returns pointers to all trees of symbols.
func trees(s *api.Symbols) []*api.Node {
	var list []*api.Node
	for i := range s.Modules {
		m := &s.Modules[i]
		list = append(list, &m.Rely, &m.Guar)
		for k := range m.Frame {
			list = append(list, &m.Frame[k])
		}
	}
	for i := range s.Locks {
		list = append(list, &s.Locks[i].Inv)
	}
	for i := range s.Procs {
		list = append(list, &s.Procs[i].Body)
	}
	return list
}

// twin returns a tree that shares nothing with another one.
func twin(n api.Node) api.Node {
	n.Kids = slices.Clone(n.Kids)
	for i := range n.Kids {
		n.Kids[i] = twin(n.Kids[i])
	}
	return n
}

// twins returns symbols whose trees share nothing with those of others.
func twins(s api.Symbols) api.Symbols {
	s.Modules, s.Locks, s.Procs = slices.Clone(s.Modules), slices.Clone(s.Locks), slices.Clone(s.Procs)
	for i := range s.Modules {
		s.Modules[i].Frame = slices.Clone(s.Modules[i].Frame)
	}
	for _, n := range trees(&s) {
		*n = twin(*n)
	}
	return s
}

// bend changes one node of a tree, most often to what is wrong.
func (c *chance) bend(tree *api.Node) {
	list := nodes(tree)
	n := list[c.below(len(list))]
	another := twin(*list[c.below(len(list))])
	i := c.below(len(n.Kids) + 1)
	switch c.below(8) {
	case 0:
		n.Kind = []int{1 + c.below(8), 20 + c.below(16), 50 + c.below(14), -1, 0, 1 << 40, api.NodeNone}[c.below(7)]
	case 1:
		n.Name = c.path()
	case 2:
		n.Name = c.of("==>", "||", "&&", "==", "!=", "<", "<=", "|", "^", "&", "+", "-", "*", "", ">", ">=", "!", "old", "=", "<=>")
	case 3:
		n.N = c.number(8)
	case 4:
		n.Kids = slices.Delete(n.Kids, min(i, len(n.Kids)), min(i+1, len(n.Kids)))
	case 5:
		n.Kids = slices.Insert(n.Kids, i, another)
	case 6:
		*n = another
	case 7:
		*n = c.node(api.NodeOld+c.below(2), "", twin(*n))
	}
}
