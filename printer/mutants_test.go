package printer_test

import (
	"reflect"
	"slices"
	"testing"

	"relyguard/api"
	"relyguard/parser"
	"relyguard/printer"
)

// mutants returns trees that differ from a tree in one field or in one kid, valid and invalid ones.
func mutants(n api.Node) []api.Node {
	var list []api.Node
	change := func(f func(x *api.Node)) {
		x := n
		x.Kids = slices.Clone(n.Kids)
		f(&x)
		list = append(list, x)
	}
	for kind := range api.NodeNone + 2 {
		change(func(x *api.Node) { x.Kind = kind })
	}
	for _, text := range []string{"", "q", "q.q", "q.q.q.q", "while", "q q", "*", "<="} {
		change(func(x *api.Node) { x.Name = text })
		change(func(x *api.Node) { x.Other = text })
	}
	for _, number := range []int{-1, 0, 1, 3, 999999999, 1000000000} {
		change(func(x *api.Node) { x.N = number })
		change(func(x *api.Node) { x.Len = number })
		change(func(x *api.Node) { x.Init = number })
	}
	change(func(x *api.Node) { x.Ghost = !n.Ghost })
	change(func(x *api.Node) { x.Kids = append(x.Kids, num(1)) })
	for i, kid := range n.Kids {
		change(func(x *api.Node) { x.Kids = slices.Delete(x.Kids, i, i+1) })
		change(func(x *api.Node) { x.Kids = slices.Insert(x.Kids, i, kid) })
		change(func(x *api.Node) { x.Kids[0], x.Kids[i] = kid, x.Kids[0] })
		change(func(x *api.Node) { x.Kids[i] = api.Node{Kind: api.NodeNone} })
		for _, mutant := range mutants(kid) {
			change(func(x *api.Node) { x.Kids[i] = mutant })
		}
	}
	return list
}

// forms returns small trees with every form of every item and every kind of expressions.
func forms() []api.Node {
	list := combined([]api.Node{ref("x")})
	c := chance(3)
	for _, x := range simple(&c) {
		list = append(list, inProcedure(&c, x).node)
	}
	e, f := read("x"), read("0")
	skip := []sample{node("", api.Node{Kind: api.NodeSkip})}
	for _, x := range []sample{branch(e, nil, nil), branch(e, skip, nil), branch(e, nil, skip), branch(e, skip, skip), loop(e, nil), loop(e, skip), bounded(e, f, skip)} {
		list = append(list, inProcedure(&c, x).node)
	}
	for _, x := range slices.Concat(variables(), []sample{record(0), record(2), procedure(&c, 2, "m", skip)}) {
		list = append(list, source([]sample{module([]sample{x})}).node)
	}
	for _, x := range threads(&c) {
		list = append(list, source([]sample{x}).node)
	}
	return list
}

// printed calls the function for a tree.
func printed(n api.Node) (string, api.Errno) {
	if n.Kind == api.NodeSource {
		return printer.Source(n)
	}
	return printer.Expr(n)
}

// P3.1 and P3.3: a changed tree is refused, or has another text than all other trees.
func TestChangedTrees(t *testing.T) {
	seen := map[string]api.Node{}
	refused := 0
	for _, n := range forms() {
		for _, mutant := range append(mutants(n), n) {
			text, err := printed(mutant)
			if !parser.Valid(mutant) {
				if text != "" || err != api.ErrArg {
					t.Fatalf("%q, %v for the invalid tree %v", text, err, mutant)
				}
				refused++
				continue
			}
			if err != api.OK {
				t.Fatalf("%v for the valid tree %v", err, mutant)
			}
			if other, ok := seen[text]; ok && !reflect.DeepEqual(parser.Strip(mutant), parser.Strip(other)) {
				t.Fatalf("%q is the text of %v and %v", text, mutant, other)
			}
			seen[text] = mutant
		}
	}
	if refused < 10000 || len(seen) < 2000 {
		t.Error("too few trees:", refused, len(seen))
	}
}
