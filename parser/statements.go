package parser

import "relyguard/api"

func (r *reader) block() api.Node {
	n := api.Node{Kind: api.NodeBlock, At: r.peek().At}
	n.Kids = r.list(r.statement)
	return n
}

func (r *reader) statement() api.Node {
	switch r.peek().Text {
	case "assert":
		return r.claim(api.NodeAssert)
	case "await":
		return r.claim(api.NodeAwait)
	case "fence":
		return r.bare(api.NodeFence)
	case "skip":
		return r.bare(api.NodeSkip)
	case "atomic":
		return r.atomic()
	case "cas":
		return r.cas()
	case "acquire":
		return r.named(api.NodeAcquire, r.path)
	case "free":
		return r.named(api.NodeFree, r.path)
	case "spawn":
		return r.named(api.NodeSpawn, r.name)
	case "join":
		return r.named(api.NodeJoin, r.name)
	case "if":
		return r.branch()
	case "while":
		return r.loop()
	case "call":
		return r.call()
	case "ghost", "local":
		return r.local()
	}
	return r.assignment()
}

// claim reads a key word and an expression.
func (r *reader) claim(kind int) api.Node {
	n := r.begin(kind)
	n.Kids = []api.Node{r.expr()}
	r.expect(";")
	return n
}

// bare reads a key word without operands.
func (r *reader) bare(kind int) api.Node {
	n := r.begin(kind)
	r.expect(";")
	return n
}

// named reads a key word and a name or a path.
func (r *reader) named(kind int, name func() string) api.Node {
	n := r.begin(kind)
	n.Name = name()
	r.expect(";")
	return n
}

func (r *reader) assignment() api.Node {
	n := api.Node{Kind: api.NodeAssign, At: r.peek().At}
	if r.accept("release") {
		n.N = 1
	}
	n.Kids = r.with(r.assign(nil))
	r.expect(";")
	return n
}

// assign appends the ref and the expr of an assignment to the kids.
func (r *reader) assign(kids []api.Node) []api.Node {
	kids = append(kids, r.ref())
	r.expect(":=")
	return append(kids, r.expr())
}

func (r *reader) assigns(kids []api.Node) []api.Node {
	kids = r.assign(kids)
	for r.accept(",") {
		kids = r.assign(kids)
	}
	return kids
}

func (r *reader) with(kids []api.Node) []api.Node {
	if r.accept("with") {
		return r.assigns(kids)
	}
	return kids
}

func (r *reader) atomic() api.Node {
	n := r.begin(api.NodeAtomic)
	n.Kids = []api.Node{{Kind: api.NodeNone, At: n.At}}
	r.expect("{")
	r.braces = 1
	if r.peek().Text != "}" {
		n.Kids = r.assigns(n.Kids)
	}
	r.expect("}")
	r.braces = 0
	if r.accept("when") {
		n.Kids[0] = r.expr()
	}
	r.expect(";")
	return n
}

func (r *reader) cas() api.Node {
	n := r.begin(api.NodeCas)
	n.Kids = append(n.Kids, r.ref())
	r.expect(",")
	n.Kids = append(n.Kids, r.expr())
	r.expect(",")
	n.Kids = append(n.Kids, r.expr())
	r.expect("into")
	n.Kids = r.with(append(n.Kids, r.ref()))
	r.expect(";")
	return n
}

func (r *reader) branch() api.Node {
	n := r.begin(api.NodeIf)
	test := r.expr()
	yes := r.block()
	no := api.Node{Kind: api.NodeBlock, At: n.At}
	if r.accept("else") {
		no = r.block()
	}
	n.Kids = []api.Node{test, yes, no}
	return n
}

func (r *reader) loop() api.Node {
	n := r.begin(api.NodeWhile)
	test := r.expr()
	variant := api.Node{Kind: api.NodeNone, At: n.At}
	if r.accept("variant") {
		variant = r.expr()
	}
	n.Kids = []api.Node{test, variant, r.block()}
	return n
}

func (r *reader) call() api.Node {
	n := r.begin(api.NodeCall)
	n.Name = r.path()
	n.Kids = r.tuple(r.expr)
	r.expect(";")
	return n
}

func (r *reader) local() api.Node {
	n := api.Node{Kind: api.NodeLocal, At: r.peek().At}
	n.Ghost = r.accept("ghost")
	r.expect("local")
	r.typed(&n)
	r.expect(";")
	return n
}

// typed reads the name of a variable and its number of bits.
func (r *reader) typed(n *api.Node) {
	n.Name = r.name()
	r.expect(":")
	n.N = r.number()
}
