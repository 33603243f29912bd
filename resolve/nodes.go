package resolve

import (
	"iter"
	"slices"

	"relyguard/api"
)

// kidsOf visits the kids of some kinds.
func kidsOf(n api.Node, kinds ...int) iter.Seq[api.Node] {
	return func(yield func(kid api.Node) bool) {
		for _, kid := range n.Kids {
			if slices.Contains(kinds, kid.Kind) && !yield(kid) {
				return
			}
		}
	}
}

// below visits a node and all nodes below it, in pre-order, those of one kind only. It keeps a list of those that are still to be visited, since trees may have any depth.
func below(top api.Node, kind int) iter.Seq[api.Node] {
	return func(yield func(n api.Node) bool) {
		rest := []api.Node{top}
		for len(rest) > 0 {
			n := rest[len(rest)-1]
			rest = rest[:len(rest)-1]
			if n.Kind == kind && !yield(n) {
				return
			}
			for _, kid := range slices.Backward(n.Kids) {
				rest = append(rest, kid)
			}
		}
	}
}

// first returns the first of some nodes, or NodeNone if there is none.
func first(list iter.Seq[api.Node]) api.Node {
	for n := range list {
		return n
	}
	return api.Node{Kind: api.NodeNone}
}

func firstKid(n api.Node) api.Node { return first(slices.Values(n.Kids)) }

// copied returns a tree that shares no memory with the source.
func copied(n api.Node) api.Node {
	rest := []*api.Node{&n}
	for len(rest) > 0 {
		top := rest[len(rest)-1]
		rest = rest[:len(rest)-1]
		top.Kids = slices.Clone(top.Kids)
		for i := range top.Kids {
			rest = append(rest, &top.Kids[i])
		}
	}
	return n
}
