package typing

import (
	"relyguard/api"
	"relyguard/resolve"
)

// checker checks expressions and statements, in one context after the other.
type checker struct {
	symbols    api.Symbols
	report     func(err api.Errno, at int)
	statements map[int]func(c *checker, n api.Node)

	module, proc int
	old          bool // whether old is permitted
	meanings     map[string]meaning
}

// meaning is what a path denotes: nothing, a declared variable, or one that a quantifier binds.
type meaning struct {
	kind   int // one of the kinds of targets, or 0 for nothing
	width  int // of a declared variable
	length int // of a declared variable
	number int // of a bound variable, which is below it
}

func newChecker(s api.Symbols, report func(err api.Errno, at int)) *checker {
	return &checker{symbols: s, report: report, statements: statementChecks()}
}

// enter begins a context without bound variables.
func (c *checker) enter(module, proc int, old bool) {
	c.module, c.proc, c.old = module, proc, old
	c.meanings = map[string]meaning{}
}

// meaning keeps what it found, since a path is asked for each time that it occurs, and a quantifier changes what is kept.
func (c *checker) meaning(path string) meaning {
	m, known := c.meanings[path]
	if !known {
		m = c.declared(path)
		c.meanings[path] = m
	}
	return m
}

func (c *checker) declared(path string) meaning {
	target, err := resolve.Lookup(c.symbols, c.module, c.proc, path)
	if err != api.OK {
		return meaning{}
	}
	v := c.variable(target)
	return meaning{kind: target.Kind, width: v.W, length: v.Len}
}

func (c *checker) variable(t api.Target) api.Var {
	switch t.Kind {
	case api.TargetParam:
		return c.symbols.Procs[c.proc].Params[t.Index]
	case api.TargetLocal:
		return c.symbols.Procs[c.proc].Locals[t.Index]
	}
	return c.symbols.Vars[t.Index]
}

// contract checks the contract of a module.
func (c *checker) contract(module int, m api.Module) {
	c.enter(module, -1, true)
	c.condition(m.Rely)
	c.condition(m.Guar)
	for _, ref := range m.Frame {
		switch {
		case c.meaning(ref.Name).kind == 0:
			c.report(api.ErrName, ref.At)
		case len(ref.Kids) > 0:
			c.report(api.ErrIndex, ref.At)
		}
	}
}

// condition checks an expression of one bit, which may be absent.
func (c *checker) condition(n api.Node) {
	if n.Kind != api.NodeNone {
		c.expr(n, 1)
	}
}

// kid returns a kid of a node, or NodeNone if it is missing.
func kid(n api.Node, i int) api.Node {
	if i < len(n.Kids) {
		return n.Kids[i]
	}
	return api.Node{Kind: api.NodeNone}
}
