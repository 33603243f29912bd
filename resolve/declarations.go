package resolve

import (
	"iter"

	"relyguard/api"
)

// scope is what a module has declared so far.
type scope struct {
	module  int
	taken   map[string]bool      // the names of its declarations
	records map[string][]api.Var // the fields of its records
}

// declarations makes the second pass over a module.
func (c *collector) declarations(module int, n api.Node) {
	m := scope{module: module, taken: map[string]bool{}, records: map[string][]api.Var{}}
	for d := range kidsOf(n, api.NodeRecord, api.NodeShared, api.NodeLock, api.NodeProc) {
		err := api.ErrTwice
		if !m.taken[d.Name] {
			err = c.declare(d, m)
		}
		if err != api.OK {
			c.report(err, d.At)
			continue
		}
		m.taken[d.Name] = true
	}
}

// declare adds a declaration, unless it returns an error.
func (c *collector) declare(d api.Node, m scope) api.Errno {
	switch d.Kind {
	case api.NodeRecord:
		m.records[d.Name] = c.scalars(m.module, map[string]bool{}, kidsOf(d, api.NodeField))
	case api.NodeShared:
		return c.shared(d, m)
	case api.NodeLock:
		return c.lock(d, m.module)
	case api.NodeProc:
		c.proc(d, m.module)
	}
	return api.OK
}

func (c *collector) shared(d api.Node, m scope) api.Errno {
	if d.Len < 0 || d.Len > api.MaxArray {
		return api.ErrLimit
	}
	vars, err := m.variables(d)
	if err != api.OK {
		return err
	}
	for _, v := range vars {
		if !isNumberOf(d.Init, v.W) {
			return api.ErrWidth
		}
	}
	c.found.Vars = append(c.found.Vars, vars...)
	return api.OK
}

// variables returns the variables of a shared declaration: one, or one for each field of its record.
func (m scope) variables(d api.Node) ([]api.Var, api.Errno) {
	whole := api.Var{Name: d.Name, W: d.N, Len: d.Len, Init: d.Init, Ghost: d.Ghost, Module: m.module, At: d.At}
	if d.Other == "" {
		if !isWidth(d.N) {
			return nil, api.ErrWidth
		}
		return []api.Var{whole}, api.OK
	}
	fields, ok := m.records[d.Other]
	if !ok {
		return nil, api.ErrName
	}
	var vars []api.Var
	for _, f := range fields {
		v := whole
		v.Name += "." + f.Name
		v.W = f.W
		vars = append(vars, v)
	}
	return vars, api.OK
}

func (c *collector) lock(d api.Node, module int) api.Errno {
	if len(c.found.Locks) == api.MaxLocks {
		return api.ErrLimit
	}
	c.found.Locks = append(c.found.Locks, api.LockDecl{Name: d.Name, Module: module, Inv: copied(firstKid(d)), At: d.At})
	return api.OK
}

func (c *collector) proc(d api.Node, module int) {
	body := first(kidsOf(d, api.NodeBlock))
	taken := map[string]bool{}
	c.found.Procs = append(c.found.Procs, api.Proc{
		Name:   d.Name,
		Module: module,
		Params: c.scalars(module, taken, kidsOf(d, api.NodeParam)),
		Locals: c.scalars(module, taken, below(body, api.NodeLocal)),
		Locked: d.Other,
		Body:   copied(body),
		At:     d.At,
	})
}

// scalars returns the fields, parameters or local variables of some nodes. One with a name that is taken, or without a right width, is reported and left out.
func (c *collector) scalars(module int, taken map[string]bool, list iter.Seq[api.Node]) []api.Var {
	var vars []api.Var
	for n := range list {
		switch {
		case taken[n.Name]:
			c.report(api.ErrTwice, n.At)
		case !isWidth(n.N):
			c.report(api.ErrWidth, n.At)
		default:
			taken[n.Name] = true
			vars = append(vars, api.Var{Name: n.Name, W: n.N, Ghost: n.Ghost, Module: module, At: n.At})
		}
	}
	return vars
}

func isWidth(n int) bool { return n >= 1 && n <= api.MaxWidth }

// isNumberOf is asked for right widths only.
func isNumberOf(n, width int) bool { return n >= 0 && n < 1<<width }
