package resolve

import "relyguard/api"

// threads makes the third pass.
func (c *collector) threads(source api.Node, procs names) {
	taken := map[string]bool{}
	for n := range kidsOf(source, api.NodeThread) {
		proc, ok := procs.find(-1, n.Other)
		switch {
		case taken[n.Name]:
			c.report(api.ErrTwice, n.At)
		case len(c.found.Threads) == api.MaxThreads:
			c.report(api.ErrLimit, n.At)
		case !ok:
			c.report(api.ErrName, n.At)
		case len(n.Kids) != len(c.found.Procs[proc].Params):
			c.report(api.ErrCall, n.At)
		default:
			taken[n.Name] = c.thread(n, proc)
		}
	}
}

// thread adds a thread, unless one of its arguments is wrong.
func (c *collector) thread(n api.Node, proc int) bool {
	var args []int
	for i, param := range c.found.Procs[proc].Params {
		arg := n.Kids[i]
		if arg.Kind != api.NodeNumber || !isNumberOf(arg.N, param.W) {
			c.report(api.ErrWidth, arg.At)
			return false
		}
		args = append(args, arg.N)
	}
	c.found.Threads = append(c.found.Threads, api.ThreadDecl{Name: n.Name, Proc: proc, Args: args, Asleep: n.N == 1, At: n.At})
	return true
}
