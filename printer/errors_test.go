package printer_test

import (
	"reflect"
	"strings"
	"testing"

	"relyguard/api"
	"relyguard/lexer"
	"relyguard/printer"
)

// within returns a source with a declaration.
func within(declaration api.Node) api.Node {
	m := api.Node{Kind: api.NodeModule, Name: "M", Other: "A", Kids: []api.Node{declaration}}
	return api.Node{Kind: api.NodeSource, Kids: []api.Node{m}}
}

// running returns a source with statements.
func running(statements ...api.Node) api.Node {
	body := api.Node{Kind: api.NodeBlock, Kids: statements}
	return within(api.Node{Kind: api.NodeProc, Name: "p", Kids: []api.Node{body}})
}

// cyclic returns a tree that contains itself.
func cyclic(kind int) api.Node {
	kids := make([]api.Node, 2)
	kids[0] = api.Node{Kind: kind, Name: "+", Kids: kids}
	kids[1] = kids[0]
	return kids[0]
}

// tower returns an expression of a depth.
func tower(depth int) api.Node {
	n := ref("x")
	for range depth - 1 {
		n = not(n)
	}
	return n
}

// sum returns an expression that adds leaves, with the least depth.
func sum(leaves []api.Node) api.Node {
	half := len(leaves) / 2
	if half == 0 {
		return leaves[0]
	}
	return binary("+", sum(leaves[:half]), sum(leaves[half:]))
}

func copies(n int, leaf api.Node) []api.Node {
	var list []api.Node
	for range n {
		list = append(list, leaf)
	}
	return list
}

// P3.1: trees that are not those of expressions.
func TestInvalidExpressions(t *testing.T) {
	x, one := ref("x"), num(1)
	doubled := one
	for range 64 {
		doubled = binary("+", doubled, doubled)
	}
	for i, n := range []api.Node{
		{}, {Kind: api.NodeNone}, {Kind: api.NodeSource}, {Kind: api.NodeBlock}, {Kind: api.NodeSkip}, {Kind: api.NodeRely, Kids: []api.Node{x}}, {Kind: -1}, {Kind: 9},
		{Kind: 1 << 40},
		running(), num(-1), num(1000000000), {Kind: api.NodeNumber, N: 1, Name: "x"}, {Kind: api.NodeNumber, Kids: []api.Node{one}},
		ref(""), ref("while"), ref("x.some"), ref("a.b.c.d"), ref("a..b"), ref(".a"), ref("a."), ref("9a"), ref("_a"), ref("a b"), ref("a\n"), ref("\u00e4"),
		ref("abcdefghijklmnopq"), ref("s", one, one),
		ref("s", api.Node{Kind: api.NodeNone}), {Kind: api.NodeRef, Name: "x", Other: "y"}, {Kind: api.NodeRef, Name: "x", N: 1}, {Kind: api.NodeRef, Name: "x", Ghost: true},
		old(one), old(old(x)), {Kind: api.NodeOld}, {Kind: api.NodeNot}, {Kind: api.NodeNot, Kids: []api.Node{x, x}}, {Kind: api.NodeNot, Name: "!", Kids: []api.Node{x}},
		binary("", x, x), binary(">", x, x), binary("= =", x, x), binary("x", x, x), binary("!", x, x), {Kind: api.NodeBinary, Name: "+", Kids: []api.Node{x}},
		{Kind: api.NodeBinary, Name: "+"}, {Kind: api.NodeBinary, Name: "+", Kids: []api.Node{x, x, x}},
		{Kind: api.NodeCond, Kids: []api.Node{x, x}}, {Kind: api.NodeCond, Len: 1, Kids: []api.Node{x, x, x}}, all("", 1, x), all("a.b", 1, x), some("if", 1, x),
		all("i", -1, x), {Kind: api.NodeAll, Name: "i", N: 1}, {Kind: api.NodeSome, Name: "i", Init: 1, Kids: []api.Node{x}},
		not(cond(x, x, binary("&", x, ref("a-b")))), not(running()), tower(41), sum(copies(751, one)), doubled, cyclic(api.NodeNot), cyclic(api.NodeBinary),
	} {
		if text, err := printer.Expr(n); text != "" || err != api.ErrArg {
			t.Errorf("%d: %q, %v", i, text, err)
		}
	}
}

// P3.1: trees that are not those of sources.
func TestInvalidSources(t *testing.T) {
	x, one, block := ref("x"), num(1), api.Node{Kind: api.NodeBlock}
	nest := func(n int) api.Node {
		inner := api.Node{Kind: api.NodeSkip}
		for range n {
			inner = api.Node{Kind: api.NodeIf, Kids: []api.Node{x, {Kind: api.NodeBlock, Kids: []api.Node{inner}}, block}}
		}
		return running(inner)
	}
	for i, n := range []api.Node{
		{}, x, one, tower(40), {Kind: api.NodeNone}, block, {Kind: api.NodeModule, Name: "M", Other: "A"}, {Kind: api.NodeThread, Name: "t", Other: "p"},
		{Kind: api.NodeSource, Name: "s"}, {Kind: api.NodeSource, N: 1}, {Kind: api.NodeSource, Kids: []api.Node{x}}, {Kind: api.NodeSource, Kids: []api.Node{{}}},
		{Kind: api.NodeSource, Kids: []api.Node{{Kind: api.NodeSource}}},
		{Kind: api.NodeSource, Kids: []api.Node{{Kind: api.NodeModule, Name: "M"}}},
		{Kind: api.NodeSource, Kids: []api.Node{{Kind: api.NodeThread, Name: "t", Other: "p", N: 2}}},
		{Kind: api.NodeSource, Kids: []api.Node{{Kind: api.NodeThread, Name: "t", Other: "p", Kids: []api.Node{x}}}},
		within(x), within(block), within(api.Node{Kind: api.NodeSkip}), within(api.Node{Kind: api.NodeShared, Name: "x", N: 1, Other: "r"}),
		within(api.Node{Kind: api.NodeShared, Name: "a.b", N: 1}), within(api.Node{Kind: api.NodeShared, Name: "x", Len: -1}),
		within(api.Node{Kind: api.NodeFrame}), within(api.Node{Kind: api.NodeFrame, Kids: []api.Node{ref("s", one)}}), within(api.Node{Kind: api.NodeProc, Name: "p"}),
		within(api.Node{Kind: api.NodeProc, Name: "p", Kids: []api.Node{block, block}}), within(api.Node{Kind: api.NodeLock, Name: "m"}),
		within(api.Node{Kind: api.NodeRely}),
		running(block), running(x), running(api.Node{Kind: api.NodeNone}), running(api.Node{Kind: api.NodeField, Name: "f"}), running(api.Node{Kind: api.NodeAssert}),
		running(api.Node{Kind: api.NodeAssign}), running(api.Node{Kind: api.NodeAssign, N: 2, Kids: []api.Node{x, one}}),
		running(api.Node{Kind: api.NodeAssign, Kids: []api.Node{one, one}}), running(api.Node{Kind: api.NodeAssign, Kids: []api.Node{x, one, x}}),
		running(api.Node{Kind: api.NodeAtomic}), running(api.Node{Kind: api.NodeAtomic, Kids: []api.Node{one, x}}),
		running(api.Node{Kind: api.NodeCas, Kids: []api.Node{x, one, one, one}}), running(api.Node{Kind: api.NodeCas, Kids: []api.Node{x, one, one}}),
		running(api.Node{Kind: api.NodeIf, Kids: []api.Node{x, block}}), running(api.Node{Kind: api.NodeIf, Kids: []api.Node{x, block, {Kind: api.NodeNone}}}),
		running(api.Node{Kind: api.NodeWhile, Kids: []api.Node{x, block}}), running(api.Node{Kind: api.NodeSpawn, Name: "a.b"}), running(api.Node{Kind: api.NodeAcquire}),
		running(api.Node{Kind: api.NodeCall, Name: "p", Kids: []api.Node{block}}), running(api.Node{Kind: api.NodeFence, Name: "f"}),
		nest(18), cyclic(api.NodeSource), cyclic(api.NodeModule), within(cyclic(api.NodeIf)),
		{Kind: api.NodeSource, Kids: copies(1500, api.Node{Kind: api.NodeModule, Name: "M", Other: "A"})},
	} {
		if text, err := printer.Source(n); text != "" || err != api.ErrArg {
			t.Errorf("%d: %q, %v", i, text, err)
		}
	}
	if text, err := printer.Source(nest(17)); text == "" || err != api.OK {
		t.Errorf("at the greatest depth: %v", err)
	}
	if text, err := printer.Expr(tower(40)); text != strings.Repeat("!", 39)+"x" || err != api.OK {
		t.Errorf("at the greatest depth: %q, %v", text, err)
	}
}

// P3.1: texts with as many bytes as the lexer accepts, and with one more.
func TestBytes(t *testing.T) {
	leaves := copies(250, ref("a"))
	shared := copies(60, api.Node{Kind: api.NodeShared, N: 1})
	for _, x := range []struct {
		names []api.Node
		tree  func() api.Node
	}{
		{leaves, func() api.Node { return sum(leaves) }},
		{leaves, func() api.Node { return running(api.Node{Kind: api.NodeAssert, Kids: []api.Node{sum(leaves)}}) }},
		{shared, func() api.Node { return lines(shared) }},
	} {
		for i := range x.names {
			x.names[i].Name = "a"
		}
		text, err := printed(x.tree())
		if err != api.OK || len(text) > api.MaxSource {
			t.Fatal(err, len(text))
		}
		length := lengthen(x.names, api.MaxSource-len(text))
		if text, err = printed(x.tree()); err != api.OK || len(text) != api.MaxSource {
			t.Error(err, len(text), length)
		}
		lengthen(x.names, 1)
		if text, err = printed(x.tree()); err != api.ErrLimit || text != "" {
			t.Error(err, len(text), length)
		}
	}
}

// lines returns a source of which blanks are a large part.
func lines(shared []api.Node) api.Node {
	inner := copies(30, api.Node{Kind: api.NodeFence})
	for range 10 {
		body := api.Node{Kind: api.NodeBlock, Kids: append(inner, copies(5, api.Node{Kind: api.NodeSkip})...)}
		inner = []api.Node{{Kind: api.NodeIf, Kids: []api.Node{ref("x"), body, {Kind: api.NodeBlock}}}}
	}
	n := running(inner...)
	n.Kids[0].Kids = append(n.Kids[0].Kids, shared...)
	return n
}

// lengthen makes names longer by a number of bytes in all.
func lengthen(names []api.Node, bytes int) int {
	for i := range names {
		more := min(bytes, api.MaxName-len(names[i].Name))
		names[i].Name += strings.Repeat("b", more)
		bytes -= more
	}
	return bytes
}

// P3.1: texts with as many tokens as the lexer accepts, and with one more.
func TestTokens(t *testing.T) {
	for _, tree := range []func(leaves []api.Node) api.Node{
		sum,
		func(leaves []api.Node) api.Node {
			return running(api.Node{Kind: api.NodeCall, Name: "p", Kids: leaves})
		},
	} {
		leaves := copies(490, num(1))
		text, _ := printed(tree(leaves))
		tokens, _, _ := lexer.Lex(text)
		next := 0
		for range api.MaxTokens - len(tokens) {
			leaves[next] = not(leaves[next])
			next = (next + 1) % len(leaves)
		}
		if text, err := printed(tree(leaves)); err != api.OK || strings.Count(text, "1") != 490 {
			t.Error(err, text)
		}
		leaves[next] = not(leaves[next])
		if text, err := printed(tree(leaves)); err != api.ErrLimit || text != "" {
			t.Error(err, text)
		}
	}
}

// P3.1: a tree with as many nodes as a valid one may have has too many tokens; one with more is refused first.
func TestNodes(t *testing.T) {
	leaves := copies(750, num(1))
	if text, err := printer.Expr(not(sum(leaves))); text != "" || err != api.ErrLimit {
		t.Error(err)
	}
	if text, err := printer.Expr(not(not(sum(leaves)))); text != "" || err != api.ErrArg {
		t.Error(err)
	}
	modules := copies(1499, api.Node{Kind: api.NodeModule, Name: "M", Other: "A"})
	if text, err := printer.Source(api.Node{Kind: api.NodeSource, Kids: modules}); text != "" || err != api.ErrLimit {
		t.Error(err)
	}
}

// Section Rules: the tree stays as it is.
func TestArgumentsStay(t *testing.T) {
	for _, n := range forms() {
		before := cloned(n)
		printed(n)
		printed(n)
		if !reflect.DeepEqual(n, before) {
			t.Fatalf("%v becomes %v", before, n)
		}
	}
}

func cloned(n api.Node) api.Node {
	kids := n.Kids
	n.Kids = nil
	for _, kid := range kids {
		n.Kids = append(n.Kids, cloned(kid))
	}
	return n
}
