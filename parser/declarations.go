package parser

import "relyguard/api"

// unit reads a module or a thread.
func (r *reader) unit() api.Node {
	if r.peek().Text == "module" {
		return r.module()
	}
	return r.thread()
}

func (r *reader) module() api.Node {
	n := r.begin(api.NodeModule)
	n.Name = r.name()
	r.expect("owner")
	n.Other = r.name()
	n.Kids = r.list(r.declaration)
	return n
}

func (r *reader) thread() api.Node {
	n := api.Node{Kind: api.NodeThread, At: r.peek().At}
	if r.accept("asleep") {
		n.N = 1
	}
	r.expect("thread")
	n.Name = r.name()
	r.expect("=")
	n.Other = r.path()
	n.Kids = r.tuple(r.numeral)
	r.expect(";")
	return n
}

func (r *reader) declaration() api.Node {
	switch r.peek().Text {
	case "record":
		return r.record()
	case "lock":
		return r.lock()
	case "rely":
		return r.claim(api.NodeRely)
	case "guarantee":
		return r.claim(api.NodeGuar)
	case "frame":
		return r.frame()
	case "proc":
		return r.proc()
	}
	return r.shared()
}

func (r *reader) record() api.Node {
	n := r.begin(api.NodeRecord)
	n.Name = r.name()
	n.Kids = r.list(r.field)
	return n
}

func (r *reader) field() api.Node {
	n := api.Node{Kind: api.NodeField, At: r.peek().At}
	r.typed(&n)
	r.expect(";")
	return n
}

func (r *reader) shared() api.Node {
	n := api.Node{Kind: api.NodeShared, At: r.peek().At}
	n.Ghost = r.accept("ghost")
	r.expect("shared")
	n.Name = r.name()
	if r.accept("[") {
		n.Len = r.length()
		r.expect("]")
	}
	r.expect(":")
	if r.peek().Kind == api.TokenNumber {
		n.N = r.number()
	} else {
		n.Other = r.name()
	}
	if r.accept("=") {
		n.Init = r.number()
	}
	r.expect(";")
	return n
}

func (r *reader) lock() api.Node {
	n := r.begin(api.NodeLock)
	n.Name = r.name()
	r.expect("invariant")
	n.Kids = []api.Node{r.expr()}
	r.expect(";")
	return n
}

func (r *reader) frame() api.Node {
	n := r.begin(api.NodeFrame)
	n.Kids = r.separated(r.variable)
	r.expect(";")
	return n
}

func (r *reader) proc() api.Node {
	n := r.begin(api.NodeProc)
	n.Name = r.name()
	n.Kids = r.tuple(r.param)
	if r.accept("locked") {
		n.Other = r.name()
	}
	n.Kids = append(n.Kids, r.block())
	return n
}

func (r *reader) param() api.Node {
	n := api.Node{Kind: api.NodeParam, At: r.peek().At}
	r.typed(&n)
	return n
}
