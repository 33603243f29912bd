package resolve

import "relyguard/api"

// modules makes the first pass. It returns the nodes of the modules that are declared.
func (c *collector) modules(source api.Node) []api.Node {
	var nodes []api.Node
	taken := map[string]bool{}
	for n := range kidsOf(source, api.NodeModule) {
		switch {
		case taken[n.Name]:
			c.report(api.ErrTwice, n.At)
		case len(nodes) == api.MaxModules:
			c.report(api.ErrLimit, n.At)
		default:
			taken[n.Name] = true
			nodes = append(nodes, n)
			c.module(n)
		}
	}
	return nodes
}

func (c *collector) module(n api.Node) {
	c.found.Modules = append(c.found.Modules, api.Module{
		Name:  n.Name,
		Owner: n.Other,
		Rely:  copied(firstKid(first(kidsOf(n, api.NodeRely)))),
		Guar:  copied(firstKid(first(kidsOf(n, api.NodeGuar)))),
		Frame: frame(first(kidsOf(n, api.NodeFrame))),
		At:    n.At,
	})
	has := map[int]bool{}
	for kid := range kidsOf(n, api.NodeRely, api.NodeGuar, api.NodeFrame) {
		if has[kid.Kind] {
			c.report(api.ErrTwice, kid.At)
		}
		has[kid.Kind] = true
	}
}

func frame(n api.Node) []api.Node {
	var refs []api.Node
	for ref := range kidsOf(n, api.NodeRef) {
		refs = append(refs, copied(ref))
	}
	return refs
}
