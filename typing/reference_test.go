package typing_test

import (
	"fmt"
	"slices"
	"testing"

	"relyguard/api"
	"relyguard/resolve"
	"relyguard/typing"
)

// place is the context of an expression in a second reading of the chapter, which lists all reports, and then takes the first ones. It says of each node separately what is wrong with it and what is checked below it.
type place struct {
	s            api.Symbols
	module, proc int
	bound        []binding
	old          bool
}

type binding struct {
	name   string
	number int
}

// denoted is what a path denotes: none of these, or one.
type denoted struct {
	bound, shared, inner bool // inner for parameters and local variables
	number               int
	v                    api.Var
}

func (d denoted) declared() bool { return d.shared || d.inner }

func (p place) denotes(path string) denoted {
	for i := len(p.bound) - 1; i >= 0; i-- {
		if p.bound[i].name == path {
			return denoted{bound: true, number: p.bound[i].number}
		}
	}
	target, err := resolve.Lookup(p.s, p.module, p.proc, path)
	if err != api.OK {
		return denoted{}
	}
	lists := map[int][]api.Var{api.TargetShared: p.s.Vars}
	if p.proc != -1 {
		lists[api.TargetParam], lists[api.TargetLocal] = p.s.Procs[p.proc].Params, p.s.Procs[p.proc].Locals
	}
	return denoted{shared: target.Kind == api.TargetShared, inner: target.Kind != api.TargetShared, v: lists[target.Kind][target.Index]}
}

func (p place) binding(name string, number int) place {
	p.bound = append(slices.Clone(p.bound), binding{name, number})
	return p
}

var classes = map[string]string{
	"==>": "logical", "||": "logical", "&&": "logical", "==": "comparison", "!=": "comparison", "<": "comparison", "<=": "comparison",
	"|": "arithmetic", "^": "arithmetic", "&": "arithmetic", "+": "arithmetic", "-": "arithmetic", "*": "arithmetic",
}

func is(n api.Node, kinds ...int) bool { return slices.Contains(kinds, n.Kind) }

// part returns the kid with a number that begins with 1.
func part(n api.Node, i int) api.Node {
	if len(n.Kids) < i {
		return api.Node{Kind: api.NodeNone}
	}
	return n.Kids[i-1]
}

// numberFits knows no powers that an int does not have, since only widths up to 8 are asked for.
func numberFits(n, w int) bool { return 0 <= n && n <= 1<<w-1 }

func bitsOfNumber(n int) int {
	w := 1
	for w < 63 && n >= 1<<w {
		w++
	}
	return w
}

func (p place) ownWidth(n api.Node) int {
	sides := []int{}
	switch {
	case is(n, api.NodeRef):
		return p.denotes(n.Name).v.W
	case is(n, api.NodeOld, api.NodeNot):
		sides = []int{1}
	case is(n, api.NodeBinary) && classes[n.Name] == "arithmetic":
		sides = []int{1, 2}
	case is(n, api.NodeCond):
		sides = []int{2, 3}
	case is(n, api.NodeAll, api.NodeSome), is(n, api.NodeBinary) && classes[n.Name] != "":
		return 1
	}
	for _, i := range sides {
		if w := p.ownWidth(part(n, i)); w > 0 {
			return w
		}
	}
	return 0
}

func (p place) leastWidth(n api.Node) int {
	d := p.denotes(n.Name)
	switch {
	case is(n, api.NodeNumber):
		return bitsOfNumber(n.N)
	case is(n, api.NodeRef) && d.bound && d.number > 0:
		return bitsOfNumber(d.number - 1)
	case is(n, api.NodeOld, api.NodeNot):
		return p.leastWidth(part(n, 1))
	case is(n, api.NodeBinary) && classes[n.Name] == "arithmetic":
		return slices.Max([]int{p.leastWidth(part(n, 1)), p.leastWidth(part(n, 2))})
	case is(n, api.NodeCond):
		return slices.Max([]int{p.leastWidth(part(n, 2)), p.leastWidth(part(n, 3))})
	}
	return 1
}

func (p place) widthFor(n api.Node, v int) int {
	if v == 0 {
		v = p.ownWidth(n)
	}
	if v == 0 {
		v = min(p.leastWidth(n), 8)
	}
	return v
}

// wrong returns the first error of a node.
func (p place) wrong(n api.Node, w int) api.Errno {
	ref, binary, truth := is(n, api.NodeRef), is(n, api.NodeBinary), is(n, api.NodeAll, api.NodeSome)
	d, class, indexed := p.denotes(n.Name), classes[n.Name], len(n.Kids) > 0
	operand := p.denotes(part(n, 1).Name)
	for _, rule := range []struct {
		applies bool
		err     api.Errno
	}{
		{is(n, api.NodeNumber) && !numberFits(n.N, w), api.ErrWidth},
		{ref && d.bound && indexed, api.ErrIndex},
		{ref && d.bound && d.number >= 1 && !numberFits(d.number-1, w), api.ErrWidth},
		{ref && !d.bound && !d.declared(), api.ErrName},
		{ref && d.declared() && d.v.Len == 0 && indexed, api.ErrIndex},
		{ref && d.declared() && d.v.Len != 0 && !indexed, api.ErrIndex},
		{ref && d.declared() && d.v.W != w, api.ErrWidth},
		{is(n, api.NodeOld) && !p.old, api.ErrPlace},
		{is(n, api.NodeOld) && !is(part(n, 1), api.NodeRef), api.ErrPlace},
		{is(n, api.NodeOld) && (operand.bound || operand.inner), api.ErrPlace},
		{binary && class == "", api.ErrPlace},
		{binary && (class == "logical" || class == "comparison") && w != 1, api.ErrWidth},
		{truth && w != 1, api.ErrWidth},
		{truth && (n.N < 0 || n.N > 8), api.ErrLimit},
		{n.Kind < api.NodeNumber || n.Kind > api.NodeSome, api.ErrPlace},
	} {
		if rule.applies {
			return rule.err
		}
	}
	return api.OK
}

// operand is an expression that is checked below another one: with a width, or, if that is -1, not at all, since it is an index of no element.
type operand struct {
	n api.Node
	w int
	p place
}

func (p place) operands(n api.Node, w int) []operand {
	first, second := part(n, 1), part(n, 2)
	switch {
	case is(n, api.NodeRef) && len(n.Kids) > 0:
		return []operand{{first, p.indexWidth(first, p.denotes(n.Name)), p}}
	case is(n, api.NodeOld, api.NodeNot):
		return []operand{{first, w, p}}
	case is(n, api.NodeBinary) && classes[n.Name] == "logical":
		return []operand{{first, 1, p}, {second, 1, p}}
	case is(n, api.NodeBinary) && classes[n.Name] == "comparison":
		v := p.ownWidth(first)
		if v == 0 {
			v = p.ownWidth(second)
		}
		if v == 0 {
			v = min(8, max(p.leastWidth(second), p.leastWidth(first)))
		}
		return []operand{{first, v, p}, {second, v, p}}
	case is(n, api.NodeBinary) && classes[n.Name] == "arithmetic":
		return []operand{{first, w, p}, {second, w, p}}
	case is(n, api.NodeCond):
		return []operand{{first, 1, p}, {second, w, p}, {part(n, 3), w, p}}
	case is(n, api.NodeAll, api.NodeSome):
		return []operand{{first, 1, p.binding(n.Name, n.N)}}
	}
	return nil
}

func (p place) indexWidth(n api.Node, array denoted) int {
	d := p.denotes(n.Name)
	if array.declared() && array.v.Len > 0 {
		if is(n, api.NodeNumber) && (n.N < 0 || n.N >= array.v.Len) || is(n, api.NodeRef) && d.bound && d.number > array.v.Len {
			return -1
		}
	}
	return p.widthFor(n, 0)
}

func one(err api.Errno, n api.Node) []api.Diag { return []api.Diag{{Err: err, At: n.At}} }

func (p place) expr(n api.Node, w int) []api.Diag {
	if w == -1 {
		return one(api.ErrIndex, n)
	}
	var list []api.Diag
	if err := p.wrong(n, w); err != api.OK {
		list = one(err, n)
	}
	for _, x := range p.operands(n, w) {
		list = append(list, x.p.expr(x.n, x.w)...)
	}
	return list
}

// free checks an expression with its width for a requirement.
func (p place) free(n api.Node, v int) []api.Diag { return p.expr(n, p.widthFor(n, v)) }

func (p place) maybe(n api.Node) []api.Diag {
	if is(n, api.NodeNone) {
		return nil
	}
	return p.expr(n, 1)
}

func (p place) pairs(list []api.Node) []api.Diag {
	if len(list) == 0 {
		return nil
	}
	pair := api.Node{Kids: list}
	target, value := part(pair, 1), part(pair, 2)
	diags := one(api.ErrPlace, target)
	v := 0
	if is(target, api.NodeRef) {
		v = p.ownWidth(target)
		diags = p.expr(target, v)
	}
	return slices.Concat(diags, p.free(value, v), p.pairs(list[min(2, len(list)):]))
}

func (p place) statement(n api.Node) []api.Diag {
	first, second, third := part(n, 1), part(n, 2), part(n, 3)
	switch n.Kind {
	case api.NodeBlock:
		var list []api.Diag
		for _, kid := range n.Kids {
			list = append(list, p.statement(kid)...)
		}
		return list
	case api.NodeAssert, api.NodeAwait:
		return p.expr(first, 1)
	case api.NodeAssign:
		return p.pairs(n.Kids)
	case api.NodeAtomic:
		return append(p.maybe(first), p.pairs(n.Kids[min(1, len(n.Kids)):])...)
	case api.NodeCas:
		return p.cas(n)
	case api.NodeIf:
		return slices.Concat(p.expr(first, 1), p.statement(second), p.statement(third))
	case api.NodeWhile:
		list := p.expr(first, 1)
		if !is(second, api.NodeNone) {
			list = append(list, p.free(second, 0)...)
		}
		return append(list, p.statement(third)...)
	case api.NodeCall:
		return p.call(n)
	case api.NodeAcquire, api.NodeFree:
		return p.named(n, slices.ContainsFunc(p.s.Locks, func(l api.LockDecl) bool { return l.Name == n.Name && l.Module == p.module }))
	case api.NodeSpawn, api.NodeJoin:
		return p.named(n, slices.ContainsFunc(p.s.Threads, func(t api.ThreadDecl) bool { return t.Name == n.Name }))
	case api.NodeFence, api.NodeSkip, api.NodeLocal, api.NodeNone:
		return nil
	}
	return one(api.ErrPlace, n)
}

func (p place) named(n api.Node, exists bool) []api.Diag {
	if exists {
		return nil
	}
	return one(api.ErrName, n)
}

func (p place) cas(n api.Node) []api.Diag {
	r, q := part(n, 1), part(n, 4)
	list, v := one(api.ErrPlace, r), 0
	if is(r, api.NodeRef) {
		v = p.ownWidth(r)
		if !p.denotes(r.Name).inner {
			list = p.expr(r, v)
		}
	}
	list = slices.Concat(list, p.free(part(n, 2), v), p.free(part(n, 3), v))
	if is(q, api.NodeRef) {
		list = append(list, p.expr(q, 1)...)
	} else {
		list = append(list, one(api.ErrPlace, q)...)
	}
	return append(list, p.pairs(n.Kids[min(4, len(n.Kids)):])...)
}

func (p place) call(n api.Node) []api.Diag {
	var list []api.Diag
	var params []api.Var
	i, err := resolve.ProcOf(p.s, p.module, n.Name)
	if err != api.OK {
		list = one(api.ErrName, n)
	} else if params = p.s.Procs[i].Params; len(params) != len(n.Kids) {
		list = one(api.ErrCall, n)
	}
	for k, kid := range n.Kids {
		v := 0
		if k < len(params) {
			v = params[k].W
		}
		list = append(list, p.free(kid, v)...)
	}
	return list
}

func usableSymbols(s api.Symbols) bool {
	var modules []int
	all := slices.Clone(s.Vars)
	for _, v := range s.Vars {
		modules = append(modules, v.Module)
	}
	for _, l := range s.Locks {
		modules = append(modules, l.Module)
	}
	for _, p := range s.Procs {
		modules = append(modules, p.Module)
		all = slices.Concat(all, p.Params, p.Locals)
	}
	return !slices.ContainsFunc(modules, func(i int) bool { return i < 0 || i >= len(s.Modules) }) &&
		!slices.ContainsFunc(all, func(v api.Var) bool { return v.W < 1 || v.W > 8 || v.Len < 0 || v.Len > 8 })
}

func cut(list []api.Diag) []api.Diag { return list[:min(len(list), 20)] }

func secondWidth(s api.Symbols, module, proc int, e api.Node, want int) (int, []api.Diag) {
	if !usableSymbols(s) || module < 0 || module >= len(s.Modules) || proc < -1 || proc >= len(s.Procs) || proc >= 0 && s.Procs[proc].Module != module || want < 0 || want > 8 {
		return 0, one(api.ErrArg, e)
	}
	p := place{s: s, module: module, proc: proc, old: proc == -1}
	w := p.widthFor(e, want)
	return w, cut(p.expr(e, w))
}

func secondCheck(s api.Symbols) []api.Diag {
	if !usableSymbols(s) {
		return []api.Diag{{Err: api.ErrArg}}
	}
	return cut(slices.Concat(sections(s)...))
}

// sections returns the reports of each contract, lock and procedure.
func sections(s api.Symbols) [][]api.Diag {
	var list [][]api.Diag
	for i, m := range s.Modules {
		p := place{s: s, module: i, proc: -1, old: true}
		diags := append(p.maybe(m.Rely), p.maybe(m.Guar)...)
		for _, ref := range m.Frame {
			if _, err := resolve.Lookup(s, i, -1, ref.Name); err != api.OK {
				diags = append(diags, one(api.ErrName, ref)...)
			} else if len(ref.Kids) > 0 {
				diags = append(diags, one(api.ErrIndex, ref)...)
			}
		}
		list = append(list, diags)
	}
	for _, l := range s.Locks {
		list = append(list, place{s: s, module: l.Module, proc: -1}.maybe(l.Inv))
	}
	for i, x := range s.Procs {
		list = append(list, place{s: s, module: x.Module, proc: i}.statement(x.Body))
	}
	return list
}

// text writes a value, with a nil slice like an empty one.
func text(value any) string { return fmt.Sprintf("%+v", value) }

// agreeOnWidth compares Width with the second reading.
func agreeOnWidth(t *testing.T, s api.Symbols, module, proc int, e api.Node, want int) (int, []api.Diag) {
	t.Helper()
	width, diags := typing.Width(s, module, proc, e, want)
	if wantWidth, wantDiags := secondWidth(s, module, proc, e, want); width != wantWidth || text(diags) != text(wantDiags) {
		t.Fatalf("Width(%+v,\n%d, %d, %+v, %d)\n= %d %v, want\n%d %v", s, module, proc, e, want, width, diags, wantWidth, wantDiags)
	}
	return width, diags
}

// agreeOnCheck compares Check with the second reading.
func agreeOnCheck(t *testing.T, s api.Symbols) []api.Diag {
	t.Helper()
	diags := typing.Check(s)
	if want := secondCheck(s); text(diags) != text(want) {
		t.Fatalf("Check(%+v)\n= %v, want\n%v", s, diags, want)
	}
	return diags
}
