package typing_test

import (
	"slices"
	"strings"
	"testing"

	"relyguard/api"
	"relyguard/typing"
)

// expressions calls a function with random expressions, many of them right, and with their contexts.
func expressions(seed chance, use func(c *chance, p place, e api.Node)) {
	c := &seed
	for range 600 {
		s := c.declarations()
		for _, p := range places(s) {
			e := c.expr(p, 1+c.below(4), c.below(6))
			for range c.below(2) * c.below(3) {
				c.bend(&e)
			}
			use(c, p, e)
		}
	}
}

// P5.2: a width without diagnostics is also the width for itself as the requirement, and, if it is an own width, for no other one.
func TestWidthsForRequirements(t *testing.T) {
	own, none := 0, 0
	expressions(4, func(c *chance, p place, e api.Node) {
		width, diags := typing.Width(p.s, p.module, p.proc, e, 0)
		if len(diags) > 0 {
			return
		}
		if again, diags := typing.Width(p.s, p.module, p.proc, e, width); again != width || len(diags) > 0 {
			t.Fatalf("%+v: %d for 0, but %d %v", e, width, again, diags)
		}
		for want := 1; want <= 8; want++ {
			if got, diags := typing.Width(p.s, p.module, p.proc, e, want); got != want || want != width && len(diags) == 0 && p.ownWidth(e) != 0 {
				t.Fatalf("%+v: %d for 0, and %d %v for %d", e, width, got, diags, want)
			}
		}
		if p.ownWidth(e) == 0 {
			none++
		} else {
			own++
		}
	})
	if own < 400 || none < 40 {
		t.Errorf("%d with an own width, %d without", own, none)
	}
}

// withNumber puts a number in the place of a bound variable.
func withNumber(n api.Node, name string, number int) api.Node {
	if is(n, api.NodeRef) && n.Name == name && len(n.Kids) == 0 {
		return api.Node{Kind: api.NodeNumber, N: number, At: n.At}
	}
	if is(n, api.NodeAll, api.NodeSome) && n.Name == name {
		return n
	}
	n.Kids = slices.Clone(n.Kids)
	for i := range n.Kids {
		n.Kids[i] = withNumber(n.Kids[i], name, number)
	}
	return n
}

// P5.3: the operands of an expression without diagnostics have none. Below a quantifier, the largest number stands for the variable, with the same bits.
func TestOperandsWithoutDiagnostics(t *testing.T) {
	operands, quantified := 0, 0
	expressions(5, func(c *chance, p place, e api.Node) {
		for want := range 9 {
			width, diags := typing.Width(p.s, p.module, p.proc, e, want)
			if len(diags) > 0 {
				continue
			}
			for _, x := range p.operands(e, width) {
				kid := x.n
				if is(e, api.NodeAll, api.NodeSome) {
					kid = withNumber(kid, e.Name, max(e.N, 1)-1)
					quantified++
				}
				if got, diags := typing.Width(p.s, p.module, p.proc, kid, x.w); got != x.w || len(diags) > 0 {
					t.Fatalf("%+v with %d: %+v with %d has %v", e, width, kid, x.w, diags)
				}
				operands++
			}
		}
	})
	if operands < 1000 || quantified < 30 {
		t.Errorf("%d operands, %d of quantifiers", operands, quantified)
	}
}

// alone returns symbols without the conditions and bodies of all but one contract, lock or procedure; others counts those before it.
func alone(s api.Symbols, others int) api.Symbols {
	s = twins(s)
	none := api.Node{Kind: api.NodeNone}
	modules, locks := len(s.Modules), len(s.Locks)
	for i := range s.Modules {
		if i != others {
			s.Modules[i].Rely, s.Modules[i].Guar, s.Modules[i].Frame = none, none, nil
		}
	}
	for i := range s.Locks {
		if modules+i != others {
			s.Locks[i].Inv = none
		}
	}
	for i := range s.Procs {
		if modules+locks+i != others {
			s.Procs[i].Body = none
		}
	}
	return s
}

// P5.4: the diagnostics of Check are those of each contract, lock and procedure alone.
func TestLocality(t *testing.T) {
	c := chance(6)
	several := 0
	for range 700 {
		s := c.symbols(1 + c.below(2))
		list := trees(&s)
		for range c.below(12) {
			c.bend(list[c.below(len(list))])
		}
		var all []api.Diag
		parts := 0
		for i := range len(s.Modules) + len(s.Locks) + len(s.Procs) {
			diags := typing.Check(alone(s, i))
			all = append(all, diags...)
			parts += min(1, len(diags))
		}
		if diags := typing.Check(s); text(diags) != text(cut(all)) {
			t.Fatalf("%+v: %v, but alone %v", s, diags, all)
		}
		if parts > 2 {
			several++
		}
	}
	if several < 100 {
		t.Errorf("only %d with diagnostics in several parts", several)
	}
}

// sum returns an expression of numbers and arithmetic operators, and the largest of the numbers.
func (c *chance) sum(size int) (api.Node, int) {
	if size == 0 || c.below(4) == 0 {
		n := c.below(1 << c.below(10))
		return c.numbered(api.NodeNumber, "", n), n
	}
	a, largest := c.sum(size - 1)
	b, other := c.sum(size - 1)
	return c.node(api.NodeBinary, c.of("|", "^", "&", "+", "-", "*"), a, b), max(largest, other)
}

// P5.5: an expression of numbers has every width that all of them fit, and the least of these for the requirement 0.
func TestWidthsOfNumbers(t *testing.T) {
	s := collected(t, bank)
	c := chance(7)
	tooLarge := 0
	for range 2000 {
		e, largest := c.sum(c.below(5))
		least := 0
		for want := 8; want >= 1; want-- {
			width, diags := typing.Width(s, 0, -1, e, want)
			if width != want || (len(diags) == 0) != (largest < 1<<want) {
				t.Fatalf("%+v: %d %v for %d", e, width, diags, want)
			}
			if largest < 1<<want {
				least = want
			}
		}
		width, diags := typing.Width(s, 0, -1, e, 0)
		if least == 0 && (width != 8 || len(diags) == 0) || least != 0 && (width != least || len(diags) != 0) {
			t.Fatalf("%+v: %d %v, want %d", e, width, diags, least)
		}
		if least == 0 {
			tooLarge++
		}
	}
	if tooLarge < 100 || tooLarge > 1500 {
		t.Errorf("%d expressions have no width", tooLarge)
	}
}

// move gives other offsets to all nodes of trees, and returns what they were. The offset of a missing part is 0.
func move(list []*api.Node) map[int]int {
	was := map[int]int{0: 0}
	for _, tree := range list {
		for _, n := range nodes(tree) {
			at := -7*len(was) - 1
			was[at], n.At = n.At, at
		}
	}
	return was
}

func back(diags []api.Diag, was map[int]int) []api.Diag {
	diags = slices.Clone(diags)
	for i := range diags {
		diags[i].At = was[diags[i].At]
	}
	return diags
}

// P5.6: with other offsets, only those of the diagnostics change, and they stay those of the same nodes.
func TestOffsets(t *testing.T) {
	expressions(8, func(c *chance, p place, e api.Node) {
		other := twin(e)
		was := move([]*api.Node{&other})
		for want := -1; want < 10; want++ {
			width, diags := typing.Width(p.s, p.module, p.proc, e, want)
			if again, moved := typing.Width(p.s, p.module, p.proc, other, want); again != width || text(back(moved, was)) != text(diags) {
				t.Fatalf("%+v: %d %v, %d %v", e, width, diags, again, back(moved, was))
			}
		}
	})
	c := chance(9)
	for range 500 {
		s := c.symbols(2)
		list := trees(&s)
		for range c.below(12) {
			c.bend(list[c.below(len(list))])
		}
		other := twins(s)
		was := move(trees(&other))
		for i := range other.Vars {
			other.Vars[i].At += 5
		}
		if diags, moved := typing.Check(s), typing.Check(other); text(back(moved, was)) != text(diags) {
			t.Fatalf("%+v: %v, %v", s, diags, back(moved, was))
		}
	}
}

// renamed gives other names to all bound variables: the name of a quantifier with the number of those around it.
func renamed(n api.Node, names map[string]string, count *int) api.Node {
	if fresh, ok := names[n.Name]; ok && is(n, api.NodeRef) {
		n.Name = fresh
	}
	if is(n, api.NodeAll, api.NodeSome) {
		*count++
		inner := map[string]string{n.Name: "fresh" + strings.Repeat("_", *count)}
		for name, fresh := range names {
			if name != n.Name {
				inner[name] = fresh
			}
		}
		n.Name, names = inner[n.Name], inner
	}
	n.Kids = slices.Clone(n.Kids)
	for i := range n.Kids {
		n.Kids[i] = renamed(n.Kids[i], names, count)
	}
	return n
}

// P5.7: other names of bound variables change nothing.
func TestBinding(t *testing.T) {
	hidden := 0
	expressions(10, func(c *chance, p place, e api.Node) {
		count := 0
		other := renamed(e, nil, &count)
		for want := range 9 {
			width, diags := typing.Width(p.s, p.module, p.proc, e, want)
			if again, same := typing.Width(p.s, p.module, p.proc, other, want); again != width || text(same) != text(diags) {
				t.Fatalf("%+v: %d %v, renamed %d %v", e, width, diags, again, same)
			}
		}
		for _, n := range nodes(&e) {
			if is(*n, api.NodeAll, api.NodeSome) && p.denotes(n.Name).declared() {
				hidden++
			}
		}
	})
	if hidden < 60 {
		t.Errorf("only %d quantifiers hide a variable", hidden)
	}
}

// nested returns a tree of nodes of one kind that each contain one more, next to other kids.
func nested(depth int, innermost api.Node, around func(n api.Node) api.Node) api.Node {
	for range depth {
		innermost = around(innermost)
	}
	return innermost
}

// P1: trees of any depth that is promised, and in a time that is no square of their size.
func TestDeepTrees(t *testing.T) {
	s := collected(t, bank)
	const depth = 1 << 16
	x, one := api.Node{Kind: api.NodeRef, Name: "x"}, api.Node{Kind: api.NodeNumber, N: 1}
	v := api.Node{Kind: api.NodeRef, Name: "v", Kids: []api.Node{one}}
	for i, c := range []struct {
		e     api.Node
		width int
	}{
		{nested(depth, x, func(n api.Node) api.Node { return api.Node{Kind: api.NodeNot, Kids: []api.Node{n}} }), 3},
		{nested(depth, one, func(n api.Node) api.Node {
			return api.Node{Kind: api.NodeBinary, Name: "+", Kids: []api.Node{n, one}}
		}), 1},
		{nested(depth, x, func(n api.Node) api.Node {
			return api.Node{Kind: api.NodeBinary, Name: "+", Kids: []api.Node{one, n}}
		}), 3},
		{nested(depth, one, func(n api.Node) api.Node {
			return api.Node{Kind: api.NodeBinary, Name: "==", Kids: []api.Node{one, n}}
		}), 1},
		{nested(depth, v, func(n api.Node) api.Node {
			return api.Node{Kind: api.NodeRef, Name: "v", Kids: []api.Node{{Kind: api.NodeBinary, Name: "+", Kids: []api.Node{one, n}}}}
		}), 2},
		{nested(depth, one, func(n api.Node) api.Node {
			return api.Node{Kind: api.NodeCond, Kids: []api.Node{n, one, one}}
		}), 1},
		{nested(depth, api.Node{Kind: api.NodeRef, Name: "i"}, func(n api.Node) api.Node {
			return api.Node{Kind: api.NodeAll, Name: "i", N: 2, Kids: []api.Node{n}}
		}), 1},
	} {
		if width, diags := typing.Width(s, 0, -1, c.e, 0); width != c.width || len(diags) != 0 {
			t.Errorf("%d: %d %v", i, width, diags)
		}
	}
	s.Procs[0].Body = nested(depth, api.Node{Kind: api.NodeParam, At: 3}, func(n api.Node) api.Node {
		return api.Node{Kind: api.NodeWhile, Kids: []api.Node{one, one, n}}
	})
	if diags := typing.Check(s); text(diags) != text([]api.Diag{{Err: api.ErrPlace, At: 3}}) {
		t.Error(diags)
	}
}
