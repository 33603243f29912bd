package expr_test

import (
	"fmt"
	"slices"
	"testing"

	"relyguard/api"
)

// chance is a linear congruence, so that every run tests the same.
type chance uint32

func (c *chance) below(n int) int {
	*c = *c*1664525 + 1013904223
	return int(*c>>8) % n
}

// cells are as many as there can be; the width of a cell follows from its index.
func cells() []api.Cell {
	var list []api.Cell
	for i := range 32 {
		list = append(list, api.Cell{W: 1 + i%8})
	}
	return list
}

// state returns values of cells, also ones that do not fit, and not always of all cells.
func (c *chance) state() []int {
	var list []int
	for range []int{0, 1, 9, 20, 32, 32, 32, 40}[c.below(8)] {
		list = append(list, c.element())
	}
	return list
}

func (c *chance) element() int {
	if c.below(8) == 0 {
		return []int{-1, -2, -128, 256, 511, -1 << 63, 1<<63 - 1, 1 << 40}[c.below(8)]
	}
	return c.below(256)
}

func (c *chance) constant(w int) api.Expr {
	ones := 1<<w - 1
	return konst([]int{0, 1, ones, c.below(ones + 1)}[c.below(4)], w)
}

// cell returns a reference to one of few cells with the width, so that parts are often equal. Now and then the width is not that of the cell.
func (c *chance) cell(operator, w int) api.Expr {
	n := w - 1 + 8*c.below(2)
	if c.below(30) == 0 {
		n = c.below(32)
	}
	return api.Expr{Op: operator, W: w, N: n}
}

// expr returns a well-formed expression of a width, unless it is too large by chance.
func (c *chance) expr(w, depth int) api.Expr {
	kind := c.below(16)
	switch {
	case depth <= 1 && kind < 5, kind == 0:
		return c.constant(w)
	case depth <= 1 && kind < 11, kind == 1:
		return c.cell(api.OpCell, w)
	case depth <= 1, kind == 2:
		return c.cell(api.OpOld, w)
	case kind < 5:
		return op(api.OpNot, w, c.expr(w, depth-1))
	case kind < 7:
		list := c.pair(w, depth-1)
		return op(api.OpIte, w, c.expr(1, depth-1), list[0], list[1])
	case w == 1 && kind < 12:
		return op(api.OpEq+c.below(3), 1, c.pair(1+c.below(1+c.below(8)), depth-1)...)
	}
	return op(api.OpAnd+c.below(6), w, c.pair(w, depth-1)...)
}

// pair returns two expressions of a width, which are sometimes equal.
func (c *chance) pair(w, depth int) []api.Expr {
	a := c.expr(w, depth)
	if c.below(6) == 0 {
		return []api.Expr{a, a}
	}
	return []api.Expr{a, c.expr(w, depth)}
}

// bent returns an expression in which one node is changed, which makes many expressions wrong.
func (c *chance) bent(e api.Expr) api.Expr {
	if len(e.Kids) > 0 && c.below(3) > 0 {
		e.Kids = slices.Clone(e.Kids)
		i := c.below(len(e.Kids))
		e.Kids[i] = c.bent(e.Kids[i])
		return e
	}
	switch c.below(6) {
	case 0:
		e.Op = c.below(17) - 1
	case 1:
		e.W = []int{-1, 0, e.W - 1, e.W + 1, 1, 8, 9, 1 << 40}[c.below(8)]
	case 2:
		e.N = []int{-1, 0, 1, 2, 31, 32, 1 << (e.W & 15), 255, 256, -1 << 63}[c.below(10)]
	case 3:
		e.Kids = e.Kids[:c.below(len(e.Kids)+1)]
	case 4:
		e.Kids = append(slices.Clone(e.Kids), c.expr(1+c.below(2), 1))
	case 5:
		e = c.expr(1+c.below(3), 2)
	}
	return e
}

// expressions calls a function with expressions of all widths, and depths up to 7.
func expressions(seed chance, count int, use func(c *chance, e api.Expr)) {
	c := &seed
	for i := range count {
		use(c, c.expr(1+c.below(1+c.below(8)), 1+i%7))
	}
}

// sized returns an expression with a number of nodes and a small depth.
func sized(n, w int) api.Expr {
	switch n {
	case 1:
		return api.Expr{Op: api.OpCell, W: w, N: 31}
	case 2:
		return op(api.OpNot, w, sized(1, w))
	}
	half := (n - 1) / 2
	return op(api.OpAdd, w, sized(half, w), sized(n-1-half, w))
}

// deep returns an expression with a depth, and as many nodes.
func deep(n int) api.Expr {
	e := api.Expr{Op: api.OpCell, W: 1, N: 3}
	for range n - 1 {
		e = op(api.OpNot, 1, e)
	}
	return e
}

// long returns an expression with a depth to which every node contributes two.
func long(n, operator int) api.Expr {
	e := api.Expr{Op: api.OpCell, W: 1, N: 3}
	for i := range n - 1 {
		e = op(operator, 1, e, api.Expr{Op: api.OpCell, W: 1, N: 4 + i%20})
	}
	return e
}

// doubled returns an expression with 2^n nodes at its lowest level, which all lie in the same memory.
func doubled(n int) api.Expr {
	e := konst(1, 1)
	for range n {
		e = op(api.OpAnd, 1, e, e)
	}
	return e
}

// wrong returns expressions that are not well-formed.
func wrong() []api.Expr {
	x, y := api.Expr{Op: api.OpCell, W: 1, N: 0}, api.Expr{Op: api.OpCell, W: 2, N: 1}
	list := []api.Expr{
		{}, {Op: 15, W: 1}, {Op: -1, W: 1}, {Op: 0, W: 1},
		konst(0, 0), konst(0, -1), konst(0, 9), konst(0, 64), konst(0, 1<<40), konst(2, 1), konst(-1, 1), konst(256, 8), konst(-1<<63, 8),
		{Op: api.OpCell, W: 0}, {Op: api.OpCell, W: 9}, {Op: api.OpCell, W: 1, N: 32}, {Op: api.OpCell, W: 1, N: -1},
		{Op: api.OpOld, W: 0}, {Op: api.OpOld, W: 9}, {Op: api.OpOld, W: 1, N: 32}, {Op: api.OpOld, W: 1, N: -1},
		op(api.OpConst, 1, x), op(api.OpCell, 1, x), op(api.OpOld, 1, x),
		op(api.OpNot, 1), op(api.OpNot, 1, x, x), op(api.OpNot, 1, y), op(api.OpNot, 2, x), {Op: api.OpNot, W: 1, N: 1, Kids: []api.Expr{x}},
		op(api.OpEq, 1), op(api.OpEq, 1, x), op(api.OpEq, 1, x, y), op(api.OpEq, 2, y, y), op(api.OpLt, 2, y, y), op(api.OpLe, 2, y, y), op(api.OpEq, 1, x, x, x),
		op(api.OpEq, 0, x, x), op(api.OpLt, 1, y, x), op(api.OpLe, 1, x, y),
		op(api.OpIte, 1), op(api.OpIte, 1, x, x), op(api.OpIte, 2, y, y, y), op(api.OpIte, 2, x, x, y), op(api.OpIte, 2, x, y, x), op(api.OpIte, 1, x, y, y),
		op(api.OpIte, 1, x, x, x, x), {Op: api.OpIte, W: 2, N: 1, Kids: []api.Expr{x, y, y}},
		op(api.OpNot, 1, op(api.OpNot, 1, konst(2, 1))), op(api.OpAnd, 1, konst(0, 1), op(api.OpOr, 1, x)),
		sized(601, 1), sized(601, 3), sized(5000, 1), deep(41), deep(42), deep(60000), long(41, api.OpAnd), op(api.OpIte, 1, x, x, deep(40)),
		doubled(10), doubled(14), op(api.OpAnd, 1, make([]api.Expr, 1<<16)...),
	}
	for operator := api.OpAnd; operator <= api.OpMul; operator++ {
		list = append(list, op(operator, 1), op(operator, 1, x), op(operator, 1, x, x, x), op(operator, 1, y, y), op(operator, 2, x, y), op(operator, 2, y, x))
	}
	for operator := api.OpAnd; operator <= api.OpLe; operator++ {
		list = append(list, api.Expr{Op: operator, W: 1, N: 1, Kids: []api.Expr{x, x}}, api.Expr{Op: operator, W: 1, N: -1, Kids: []api.Expr{x, x}})
	}
	return list
}

// largest returns well-formed expressions that would not be so with one node or one level more.
func largest() []api.Expr {
	list := []api.Expr{sized(600, 1), sized(600, 8), sized(599, 2), deep(40), deep(39), op(api.OpIte, 1, deep(1), deep(39), deep(2)), widest()}
	for operator := api.OpAnd; operator <= api.OpLe; operator++ {
		list = append(list, long(40, operator))
	}
	return list
}

// widest returns the expression of 600 nodes with the longest text.
func widest() api.Expr { return op(api.OpAdd, 8, konst(255, 8), choices(199)) }

// choices returns an expression with a number of OpIte, two kids of each of which are leaves or other ones.
func choices(n int) api.Expr {
	if n == 0 {
		return konst(255, 8)
	}
	half := (n - 1) / 2
	return op(api.OpIte, 8, api.Expr{Op: api.OpOld, W: 1, N: 31}, choices(half), choices(n-1-half))
}

// plain returns a text for messages, also of an expression that is not well-formed.
func plain(e api.Expr) string { return cut(e, 6) }

func cut(e api.Expr, depth int) string {
	if depth == 0 {
		return ".."
	}
	text := fmt.Sprintf("{%d %d %d", e.Op, e.W, e.N)
	if wellFormed(e) && len(e.Kids) == 0 {
		return written(e)
	}
	for _, kid := range e.Kids[:min(4, len(e.Kids))] {
		text += " " + cut(kid, depth-1)
	}
	return text + "}"
}

// isFresh reports whether the memory of a result is its own.
func isFresh(result api.Expr, args ...api.Expr) bool {
	seen := map[*api.Expr]bool{}
	for _, e := range args {
		for _, n := range nodes(e) {
			seen[memory(n)] = true
		}
	}
	for _, n := range nodes(result) {
		if at := memory(n); at != nil && seen[at] {
			return false
		} else {
			seen[at] = true
		}
	}
	return true
}

func memory(n api.Expr) *api.Expr {
	if len(n.Kids) == 0 {
		return nil
	}
	return &n.Kids[0]
}

func check(t *testing.T, what string, got, want api.Expr) {
	t.Helper()
	if !same(got, want) {
		t.Fatalf("%s: %s, not %s", what, plain(got), plain(want))
	}
}
