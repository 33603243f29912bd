package parser_test

import (
	"strconv"
	"strings"

	"relyguard/api"
)

// chance is a linear congruence, so that every run tests the same.
type chance uint32

func (c *chance) below(n int) int {
	*c = *c*1664525 + 1013904223
	return int(*c>>8) % n
}

func (c *chance) of(list ...string) string { return list[c.below(len(list))] }

// Random trees; size bounds the depth and the number of kids.

func (c *chance) name() string {
	return c.of("a", "b", "x", "y", "r1", "M", "old_", "allx", "somewhere", "Module", "iff", "a_b_", "Z9", "abcdefghijklmnop", "lockedd", "e")
}

func (c *chance) path() string {
	return strings.Join([]string{c.name(), c.name(), c.name()}[:1+c.below(3)], ".")
}

func (c *chance) number() int { return []int{0, 1, 2, 7, 10, 255, 999999999}[c.below(7)] }

func (c *chance) ref(size int) api.Node {
	n := api.Node{Kind: api.NodeRef, Name: c.path()}
	if size > 0 && c.below(3) == 0 {
		n.Kids = []api.Node{c.expr(size - 1)}
	}
	return n
}

func (c *chance) expr(size int) api.Node {
	if size == 0 {
		if c.below(2) == 0 {
			return api.Node{Kind: api.NodeNumber, N: c.number()}
		}
		return c.ref(0)
	}
	size--
	switch c.below(9) {
	case 0:
		return c.ref(size)
	case 1:
		return api.Node{Kind: api.NodeOld, Kids: []api.Node{c.ref(size)}}
	case 2:
		return api.Node{Kind: api.NodeNot, Kids: []api.Node{c.expr(size)}}
	case 3:
		return api.Node{Kind: api.NodeCond, Kids: c.exprs(3, size)}
	case 4:
		return api.Node{Kind: api.NodeAll + c.below(2), Name: c.name(), N: c.number(), Kids: c.exprs(1, size)}
	case 5:
		return c.expr(0)
	}
	return api.Node{Kind: api.NodeBinary, Name: c.of(operators...), Kids: c.exprs(2, size)}
}

func (c *chance) exprs(n, size int) []api.Node {
	var kids []api.Node
	for range n {
		kids = append(kids, c.expr(c.below(size+1)))
	}
	return kids
}

func (c *chance) assigns(n, size int) []api.Node {
	var kids []api.Node
	for range n {
		kids = append(kids, c.ref(c.below(2)), c.expr(c.below(size+1)))
	}
	return kids
}

func (c *chance) statement(size int) api.Node {
	plain := []int{api.NodeAssert, api.NodeAwait, api.NodeFence, api.NodeSkip, api.NodeAssign, api.NodeAtomic, api.NodeCas, api.NodeAcquire,
		api.NodeFree, api.NodeSpawn, api.NodeJoin, api.NodeCall, api.NodeLocal, api.NodeIf, api.NodeWhile, api.NodeIf, api.NodeWhile}
	n := api.Node{Kind: plain[c.below(len(plain)-4*(1-min(size, 1)))]}
	const small = 2
	switch n.Kind {
	case api.NodeAssert, api.NodeAwait:
		n.Kids = c.exprs(1, small)
	case api.NodeAssign:
		n.N = c.below(2)
		n.Kids = c.assigns(1+c.below(3), small)
	case api.NodeAtomic:
		n.Kids = append(c.maybe(), c.assigns(c.below(3), small)...)
	case api.NodeCas:
		n.Kids = append([]api.Node{c.ref(1), c.expr(1), c.expr(1), c.ref(1)}, c.assigns(c.below(3), small)...)
	case api.NodeAcquire, api.NodeFree:
		n.Name = c.path()
	case api.NodeSpawn, api.NodeJoin:
		n.Name = c.name()
	case api.NodeCall:
		n.Name = c.path()
		n.Kids = c.exprs(c.below(4), small)
	case api.NodeLocal:
		n.Name, n.N, n.Ghost = c.name(), c.number(), c.below(2) == 0
	case api.NodeIf:
		n.Kids = []api.Node{c.expr(small), c.block(size - 1), c.block(size - 1)}
	case api.NodeWhile:
		n.Kids = append(c.exprs(1, small), c.maybe()...)
		n.Kids = append(n.Kids, c.block(size-1))
	}
	return n
}

func (c *chance) maybe() []api.Node {
	if c.below(2) == 0 {
		return []api.Node{{Kind: api.NodeNone}}
	}
	return c.exprs(1, 1)
}

func (c *chance) block(size int) api.Node {
	n := api.Node{Kind: api.NodeBlock}
	for range c.below(size + 2) {
		n.Kids = append(n.Kids, c.statement(size))
	}
	return n
}

func (c *chance) declaration(size int) api.Node {
	n := api.Node{Kind: []int{api.NodeShared, api.NodeShared, api.NodeRecord, api.NodeLock, api.NodeRely, api.NodeGuar, api.NodeFrame, api.NodeProc, api.NodeProc}[c.below(9)]}
	switch n.Kind {
	case api.NodeShared:
		n.Name, n.Len, n.Init, n.Ghost = c.name(), c.number(), c.number(), c.below(2) == 0
		if c.below(2) == 0 {
			n.Other = c.name()
		} else {
			n.N = c.number()
		}
	case api.NodeRecord:
		n.Name = c.name()
		for range c.below(3) {
			n.Kids = append(n.Kids, api.Node{Kind: api.NodeField, Name: c.name(), N: c.number()})
		}
	case api.NodeLock:
		n.Name, n.Kids = c.name(), c.exprs(1, 3)
	case api.NodeRely, api.NodeGuar:
		n.Kids = c.exprs(1, 3)
	case api.NodeFrame:
		for range 1 + c.below(3) {
			n.Kids = append(n.Kids, api.Node{Kind: api.NodeRef, Name: c.path()})
		}
	case api.NodeProc:
		n.Name = c.name()
		for range c.below(3) {
			n.Kids = append(n.Kids, api.Node{Kind: api.NodeParam, Name: c.name(), N: c.number()})
		}
		if c.below(3) == 0 {
			n.Other = c.name()
		}
		n.Kids = append(n.Kids, c.block(size))
	}
	return n
}

func (c *chance) source(size int) api.Node {
	source := api.Node{Kind: api.NodeSource}
	for range c.below(size + 1) {
		n := api.Node{Kind: api.NodeThread, Name: c.name()}
		if c.below(3) == 0 {
			n.N, n.Other = c.below(2), c.path()
			for range c.below(3) {
				n.Kids = append(n.Kids, api.Node{Kind: api.NodeNumber, N: c.number()})
			}
		} else {
			n.Kind, n.Other = api.NodeModule, c.name()
			for range c.below(size + 1) {
				n.Kids = append(n.Kids, c.declaration(size))
			}
		}
		source.Kids = append(source.Kids, n)
	}
	return source
}

// writer writes trees as text, and sets the offsets of their nodes.
type writer struct {
	text    strings.Builder
	gap     func(before, after string) string
	enclose func(operand bool) bool // whether to put an expression in parentheses that may do without
	last    string
}

func plainGap(before, after string) string { return " " }

func never(operand bool) bool { return false }

func operandsOnly(operand bool) bool { return operand }

func (w *writer) put(texts ...string) int {
	at := 0
	for _, text := range texts {
		w.text.WriteString(w.gap(w.last, text))
		at = w.text.Len()
		w.text.WriteString(text)
		w.last = text
	}
	return at
}

func (w *writer) number(n int) int { return w.put(strconv.Itoa(n)) }

func (w *writer) path(path string) int {
	at := -1
	for i, name := range strings.Split(path, ".") {
		if i > 0 {
			w.put(".")
		}
		if x := w.put(name); at < 0 {
			at = x
		}
	}
	return at
}

// separated writes parts with commas between them.
func (w *writer) separated(n int, part func(i int)) {
	for i := range n {
		if i > 0 {
			w.put(",")
		}
		part(i)
	}
}

var operators = []string{"==>", "||", "&&", "==", "!=", "<", "<=", "|", "^", "&", "+", "-", "*"}

// place says which expressions may stand in a place without parentheses: those of at least this level.
const (
	anyExpr    = 0
	aCond      = 1
	anImplies  = 2
	anOr       = 3
	comparable = 5
	aUnary     = 11
)

func levelOf(operator string) int {
	for i, list := range []string{"==>", "||", "&&", "== != < <=", "|", "^", "&", "+ -", "*"} {
		if strings.Contains(" "+list+" ", " "+operator+" ") {
			return anImplies + i
		}
	}
	return aUnary
}

// places returns the level of an expression and those of the places of its kids.
func places(n api.Node) (int, []int) {
	switch n.Kind {
	case api.NodeAll, api.NodeSome:
		return anyExpr, []int{anyExpr}
	case api.NodeCond:
		return aCond, []int{anImplies, aCond, aCond}
	case api.NodeNot:
		return aUnary, []int{aUnary}
	case api.NodeBinary:
		level := levelOf(n.Name)
		switch level {
		case anImplies:
			return level, []int{anOr, anImplies}
		case comparable:
			return level, []int{comparable + 1, comparable + 1}
		}
		return level, []int{level, level + 1}
	}
	return aUnary, nil
}

func (w *writer) expr(n *api.Node, place int, operand bool) {
	level, _ := places(*n)
	if level < place || w.enclose(operand) {
		w.put("(")
		w.bare(n)
		w.put(")")
		return
	}
	w.bare(n)
}

// bare writes an expression without parentheses around it.
func (w *writer) bare(n *api.Node) {
	_, kids := places(*n)
	operand := func(i int) { w.expr(&n.Kids[i], kids[i], true) }
	switch n.Kind {
	case api.NodeNumber:
		n.At = w.number(n.N)
	case api.NodeRef:
		w.ref(n)
	case api.NodeOld:
		n.At = w.put("old")
		w.put("(")
		w.ref(&n.Kids[0])
		w.put(")")
	case api.NodeNot:
		n.At = w.put("!")
		operand(0)
	case api.NodeBinary:
		operand(0)
		n.At = w.put(n.Name)
		operand(1)
	case api.NodeCond:
		operand(0)
		n.At = w.put("?")
		operand(1)
		w.put(":")
		operand(2)
	case api.NodeAll, api.NodeSome:
		n.At = w.put([]string{"all", "some"}[n.Kind-api.NodeAll])
		w.put(n.Name, "<", strconv.Itoa(n.N), ":")
		operand(0)
	}
}

func (w *writer) whole(n *api.Node) { w.expr(n, anyExpr, false) }

func (w *writer) ref(n *api.Node) {
	n.At = w.path(n.Name)
	if len(n.Kids) > 0 {
		w.put("[")
		w.whole(&n.Kids[0])
		w.put("]")
	}
}

// assigns writes pairs of refs and expressions.
func (w *writer) assigns(kids []api.Node) {
	w.separated(len(kids)/2, func(i int) {
		w.ref(&kids[2*i])
		w.put(":=")
		w.whole(&kids[2*i+1])
	})
}

func (w *writer) with(kids []api.Node) {
	if len(kids) > 0 {
		w.put("with")
		w.assigns(kids)
	}
	w.put(";")
}

func (w *writer) block(n *api.Node) {
	n.At = w.put("{")
	for i := range n.Kids {
		w.node(&n.Kids[i])
	}
	w.put("}")
}

// begin writes the words of a construct, of which the first one may be missing.
func (w *writer) begin(n *api.Node, has bool, first string, others ...string) {
	if has {
		n.At = w.put(first)
		w.put(others...)
		return
	}
	n.At = w.put(others[0])
	w.put(others[1:]...)
}

// node writes a statement, a declaration, a module or a thread.
func (w *writer) node(n *api.Node) {
	key := map[int]string{api.NodeAssert: "assert", api.NodeAwait: "await", api.NodeRely: "rely", api.NodeGuar: "guarantee", api.NodeFence: "fence",
		api.NodeSkip: "skip", api.NodeAcquire: "acquire", api.NodeFree: "free", api.NodeSpawn: "spawn", api.NodeJoin: "join"}[n.Kind]
	switch n.Kind {
	case api.NodeAssert, api.NodeAwait, api.NodeRely, api.NodeGuar:
		n.At = w.put(key)
		w.whole(&n.Kids[0])
		w.put(";")
	case api.NodeFence, api.NodeSkip:
		n.At = w.put(key)
		w.put(";")
	case api.NodeAcquire, api.NodeFree, api.NodeSpawn, api.NodeJoin:
		n.At = w.put(key)
		w.path(n.Name)
		w.put(";")
	case api.NodeAssign:
		if n.N == 1 {
			n.At = w.put("release")
		}
		w.assigns(n.Kids[:2])
		if n.N != 1 {
			n.At = n.Kids[0].At
		}
		w.with(n.Kids[2:])
	case api.NodeLocal:
		w.begin(n, n.Ghost, "ghost", "local", n.Name, ":", strconv.Itoa(n.N), ";")
	case api.NodeField:
		n.At = w.put(n.Name)
		w.put(":", strconv.Itoa(n.N), ";")
	case api.NodeParam:
		n.At = w.put(n.Name)
		w.put(":", strconv.Itoa(n.N))
	case api.NodeAtomic, api.NodeCas, api.NodeIf, api.NodeWhile, api.NodeCall:
		w.longStatement(n)
	default:
		w.declaration(n)
	}
}

func (w *writer) longStatement(n *api.Node) {
	n.At = w.put(map[int]string{api.NodeAtomic: "atomic", api.NodeCas: "cas", api.NodeIf: "if", api.NodeWhile: "while", api.NodeCall: "call"}[n.Kind])
	switch n.Kind {
	case api.NodeAtomic:
		w.put("{")
		w.assigns(n.Kids[1:])
		w.put("}")
		w.optional(&n.Kids[0], "when", n.At)
		w.put(";")
	case api.NodeCas:
		w.ref(&n.Kids[0])
		w.put(",")
		w.whole(&n.Kids[1])
		w.put(",")
		w.whole(&n.Kids[2])
		w.put("into")
		w.ref(&n.Kids[3])
		w.with(n.Kids[4:])
	case api.NodeIf:
		w.whole(&n.Kids[0])
		w.block(&n.Kids[1])
		if len(n.Kids[2].Kids) > 0 {
			w.put("else")
			w.block(&n.Kids[2])
		} else {
			n.Kids[2].At = n.At
		}
	case api.NodeWhile:
		w.whole(&n.Kids[0])
		w.optional(&n.Kids[1], "variant", n.At)
		w.block(&n.Kids[2])
	case api.NodeCall:
		w.path(n.Name)
		w.put("(")
		w.separated(len(n.Kids), func(i int) { w.whole(&n.Kids[i]) })
		w.put(")", ";")
	}
}

// optional writes a word and an expression, unless it is missing.
func (w *writer) optional(n *api.Node, word string, at int) {
	if n.Kind == api.NodeNone {
		n.At = at
		return
	}
	w.put(word)
	w.whole(n)
}

func (w *writer) declaration(n *api.Node) {
	switch n.Kind {
	case api.NodeShared:
		w.begin(n, n.Ghost, "ghost", "shared", n.Name)
		if n.Len > 0 {
			w.put("[", strconv.Itoa(n.Len), "]")
		}
		w.put(":")
		if n.Other != "" {
			w.put(n.Other)
		} else {
			w.number(n.N)
		}
		if n.Init > 0 {
			w.put("=", strconv.Itoa(n.Init))
		}
		w.put(";")
	case api.NodeRecord:
		n.At = w.put("record")
		w.put(n.Name, "{")
		for i := range n.Kids {
			w.node(&n.Kids[i])
		}
		w.put("}")
	case api.NodeLock:
		n.At = w.put("lock")
		w.put(n.Name, "invariant")
		w.whole(&n.Kids[0])
		w.put(";")
	case api.NodeFrame:
		n.At = w.put("frame")
		w.separated(len(n.Kids), func(i int) { n.Kids[i].At = w.path(n.Kids[i].Name) })
		w.put(";")
	case api.NodeProc:
		n.At = w.put("proc")
		w.put(n.Name, "(")
		last := len(n.Kids) - 1
		w.separated(last, func(i int) { w.node(&n.Kids[i]) })
		w.put(")")
		if n.Other != "" {
			w.put("locked", n.Other)
		}
		w.block(&n.Kids[last])
	case api.NodeModule:
		n.At = w.put("module")
		w.put(n.Name, "owner", n.Other, "{")
		for i := range n.Kids {
			w.node(&n.Kids[i])
		}
		w.put("}")
	case api.NodeThread:
		w.begin(n, n.N == 1, "asleep", "thread", n.Name, "=")
		w.path(n.Other)
		w.put("(")
		w.separated(len(n.Kids), func(i int) { n.Kids[i].At = w.number(n.Kids[i].N) })
		w.put(")", ";")
	}
}

// write returns the text of an expression or a source; it sets the offsets of the tree.
func (w *writer) write(n *api.Node) string {
	if n.Kind != api.NodeSource {
		w.whole(n)
		return w.text.String()
	}
	for i := range n.Kids {
		w.node(&n.Kids[i])
	}
	return w.text.String()
}
