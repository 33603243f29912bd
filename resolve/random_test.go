package resolve_test

import (
	"slices"
	"testing"

	"relyguard/api"
	"relyguard/parser"
	"relyguard/resolve"
)

// P4.1: Collect on random trees, and the other functions on its results.
func TestRandomTrees(t *testing.T) {
	c := chance(1)
	errs := map[api.Errno]int{}
	full := 0
	for range 1500 {
		tree := c.source(14)
		for range c.below(2) * c.below(6) {
			c.bend(&tree)
		}
		_, diags := agree(t, tree)
		for _, d := range diags {
			errs[d.Err]++
		}
		if len(diags) == api.MaxDiags {
			full++
		}
	}
	for _, err := range []api.Errno{api.ErrTwice, api.ErrLimit, api.ErrName, api.ErrCall, api.ErrWidth, api.ErrCycle} {
		if errs[err] < 60 {
			t.Errorf("%v only %d times", err, errs[err])
		}
	}
	if full < 30 {
		t.Errorf("only %d trees with all diagnostics", full)
	}
}

// P4.1: a node of each kind among the kids of each node, at the front and at the end.
func TestKidsOfAllKinds(t *testing.T) {
	c := chance(2)
	tree, _ := parser.Parse("module M owner A { record r { a : 1; } shared x : r; lock l invariant x.a; rely x.a; guarantee x.a; frame x; proc p(b : 2) { call q(); if b { local d : 3; } } proc q() { } } thread t = M.p(1);")
	for i := range nodes(&tree) {
		for kind := -1; kind <= 64; kind++ {
			kid := c.node(kind, "n", c.small(api.NodeField)(), c.small(api.NodeLocal)())
			kid.N = 3
			for _, front := range []bool{true, false} {
				other := twin(tree)
				n := nodes(&other)[i]
				at := len(n.Kids)
				if front {
					at = 0
				}
				n.Kids = slices.Insert(n.Kids, at, kid)
				agree(t, other)
			}
		}
	}
}

// P4.1: Lookup, ProcOf and Order on symbols that Collect does not return.
func TestRandomSymbols(t *testing.T) {
	c := chance(3)
	for range 1200 {
		s := c.symbols()
		before := text(s)
		agreeOnCalls(t, s)
		if text(s) != before {
			t.Fatalf("changed: %s", before)
		}
	}
}

// P4.4: Order, and the reports of Collect, for random calls.
func TestRandomCalls(t *testing.T) {
	c := chance(4)
	succeeded := 0
	for range 1500 {
		list := make([][]int, 1+c.below(9))
		for i := range list {
			for range c.below(4) {
				if j := c.below(len(list)); j != i || c.below(4) == 0 {
					list[i] = append(list[i], j)
				}
			}
		}
		s, diags := agree(t, c.calls(list))
		var want []api.Diag
		for i, p := range s.Procs {
			if reaches(s, i, i) {
				want = append(want, api.Diag{Err: api.ErrCycle, At: p.At})
			}
		}
		if text(diags) != text(want) {
			t.Fatalf("%v: %v, want %v", list, diags, want)
		}
		order, err := resolve.Order(s)
		if (err == api.OK) != (len(want) == 0) || err == api.OK && !calledBefore(s, order) {
			t.Fatalf("%v: Order = %v %v", list, order, err)
		}
		if err == api.OK {
			succeeded++
		}
	}
	if succeeded < 150 || succeeded > 1350 {
		t.Errorf("Order succeeded %d times", succeeded)
	}
}

// calledBefore reports whether an order has every procedure once, after those that it calls.
func calledBefore(s api.Symbols, order []int) bool {
	position := map[int]int{}
	for k, i := range order {
		position[i] = k
	}
	for i, p := range s.Procs {
		if _, ok := position[i]; !ok {
			return false
		}
		for _, j := range p.Calls {
			if position[j] >= position[i] {
				return false
			}
		}
	}
	return len(order) == len(s.Procs)
}
