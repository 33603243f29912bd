package typing

import (
	"relyguard/api"
	"relyguard/resolve"
)

// statementChecks returns how the statements of each kind are checked.
func statementChecks() map[int]func(c *checker, n api.Node) {
	return map[int]func(c *checker, n api.Node){
		api.NodeBlock:   (*checker).block,
		api.NodeAssert:  (*checker).claim,
		api.NodeAwait:   (*checker).claim,
		api.NodeAssign:  (*checker).assign,
		api.NodeAtomic:  (*checker).atomic,
		api.NodeCas:     (*checker).cas,
		api.NodeIf:      (*checker).branch,
		api.NodeWhile:   (*checker).loop,
		api.NodeCall:    (*checker).call,
		api.NodeAcquire: (*checker).lock,
		api.NodeFree:    (*checker).lock,
		api.NodeSpawn:   (*checker).thread,
		api.NodeJoin:    (*checker).thread,
		api.NodeFence:   (*checker).nothing,
		api.NodeSkip:    (*checker).nothing,
		api.NodeLocal:   (*checker).nothing,
		api.NodeNone:    (*checker).nothing,
	}
}

func (c *checker) statement(n api.Node) {
	check, ok := c.statements[n.Kind]
	if !ok {
		c.report(api.ErrPlace, n.At)
		return
	}
	check(c, n)
}

func (c *checker) nothing(api.Node) {}

func (c *checker) block(n api.Node) {
	for _, statement := range n.Kids {
		c.statement(statement)
	}
}

// claim checks a statement that consists of a condition.
func (c *checker) claim(n api.Node) { c.expr(kid(n, 0), 1) }

func (c *checker) assign(n api.Node) { c.assignments(n, 0) }

func (c *checker) atomic(n api.Node) {
	c.condition(kid(n, 0))
	c.assignments(n, 1)
}

// assignments checks pairs of kids, from the kid with the given index on.
func (c *checker) assignments(n api.Node, first int) {
	for i := first; i < len(n.Kids); i += 2 {
		want := c.target(n.Kids[i])
		c.operand(kid(n, i+1), want)
	}
}

// target checks what is assigned to. It returns the width that is required of the value, or 0.
func (c *checker) target(n api.Node) int {
	if n.Kind != api.NodeRef {
		c.report(api.ErrPlace, n.At)
		return 0
	}
	own := c.own(n)
	c.expr(n, own)
	return own
}

// operand checks an expression with its width for a requirement.
func (c *checker) operand(n api.Node, want int) { c.expr(n, c.width(n, want)) }

func (c *checker) cas(n api.Node) {
	want := c.swapped(kid(n, 0))
	c.operand(kid(n, 1), want)
	c.operand(kid(n, 2), want)
	if into := kid(n, 3); into.Kind == api.NodeRef {
		c.expr(into, 1)
	} else {
		c.report(api.ErrPlace, into.At)
	}
	c.assignments(n, 4)
}

// swapped checks the variable that a cas compares and swaps, which may not be one of the procedure. It returns the width that is required of the values, or 0.
func (c *checker) swapped(n api.Node) int {
	if n.Kind == api.NodeRef {
		switch m := c.meaning(n.Name); m.kind {
		case api.TargetParam, api.TargetLocal:
			c.report(api.ErrPlace, n.At)
			return m.width
		}
	}
	return c.target(n)
}

func (c *checker) branch(n api.Node) {
	c.claim(n)
	c.statement(kid(n, 1))
	c.statement(kid(n, 2))
}

func (c *checker) loop(n api.Node) {
	c.claim(n)
	if variant := kid(n, 1); variant.Kind != api.NodeNone {
		c.operand(variant, 0)
	}
	c.statement(kid(n, 2))
}

func (c *checker) call(n api.Node) {
	var params []api.Var
	proc, err := resolve.ProcOf(c.symbols, c.module, n.Name)
	if err == api.OK {
		params = c.symbols.Procs[proc].Params
	}
	switch {
	case err != api.OK:
		c.report(api.ErrName, n.At)
	case len(n.Kids) != len(params):
		c.report(api.ErrCall, n.At)
	}
	for i, arg := range n.Kids {
		want := 0
		if i < len(params) {
			want = params[i].W
		}
		c.operand(arg, want)
	}
}

func (c *checker) lock(n api.Node) {
	for _, l := range c.symbols.Locks {
		if l.Module == c.module && l.Name == n.Name {
			return
		}
	}
	c.report(api.ErrName, n.At)
}

func (c *checker) thread(n api.Node) {
	for _, t := range c.symbols.Threads {
		if t.Name == n.Name {
			return
		}
	}
	c.report(api.ErrName, n.At)
}
