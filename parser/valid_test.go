package parser_test

import (
	"strings"
	"testing"

	"relyguard/api"
	"relyguard/parser"
)

// canBeRead reports whether a tree has a text that is parsed to it: a second reading of what is well-formed.
func canBeRead(tree api.Node) (ok bool) {
	defer func() {
		if recover() != nil {
			ok = false // a kid is missing
		}
	}()
	tree = parser.Strip(tree)
	copied := parser.Strip(tree)
	w := writer{gap: plainGap, enclose: never}
	text := w.write(&copied)
	read := parser.ParseExpr
	if tree.Kind == api.NodeSource {
		read = parser.Parse
	}
	n, diags := read(text)
	return len(diags) == 0 && same(parser.Strip(n), tree)
}

// nodes returns pointers to all nodes of a tree.
func nodes(n *api.Node) []*api.Node {
	list := []*api.Node{n}
	for i := range n.Kids {
		list = append(list, nodes(&n.Kids[i])...)
	}
	return list
}

// bend changes one node of a tree.
func (c *chance) bend(tree *api.Node) {
	list := nodes(tree)
	n := list[c.below(len(list))]
	another := parser.Strip(*list[c.below(len(list))])
	i := c.below(len(n.Kids) + 1)
	texts := []string{"", "a", "a.b", "a.b.c", "a.b.c.d", "a..b", ".a", "a.", "a b", "1", "1a", "_a", "a_1", "old", "a.if", "abcdefghijklmnop", "abcdefghijklmnopq",
		"+", "==>", "?", ":=", "=", "!", "a;", "\xc3\xa9", "a\xc3", "A", "z.Z", "a[0]", "x\n", "-", "a-b", "@", "[", "`", "{", "a/", "a:", "module"}
	numbers := []int{-1, 0, 1, 2, 7, 999999999, 1000000000, -1 << 63, 1<<63 - 1}
	switch c.below(11) {
	case 0:
		n.Kind = []int{c.below(9), 20 + c.below(16), 50 + c.below(14), 20 + c.below(45), -1, 1 << 40}[c.below(6)]
	case 1:
		n.Name = c.of(texts...)
	case 2:
		n.Other = c.of(texts...)
	case 3:
		n.N = numbers[c.below(len(numbers))]
	case 4:
		n.Len = numbers[c.below(len(numbers))]
	case 5:
		n.Init = numbers[c.below(len(numbers))]
	case 6:
		n.Ghost = !n.Ghost
	case 7:
		if i < len(n.Kids) {
			n.Kids = append(n.Kids[:i:i], n.Kids[i+1:]...)
		}
	case 8:
		n.Kids = append(n.Kids[:i:i], append([]api.Node{another}, n.Kids[i:]...)...)
	case 9:
		if i < len(n.Kids) {
			n.Kids[i] = another
		}
	case 10:
		if i+1 < len(n.Kids) {
			n.Kids[i], n.Kids[i+1] = n.Kids[i+1], n.Kids[i]
		}
	}
}

// P2.1: a tree is valid if and only if a text is parsed to it.
func TestBentTrees(t *testing.T) {
	c := chance(10)
	count := map[bool]int{}
	for range 40000 {
		_, tree := c.written(c.below(3), plainGap)
		if c.below(3) == 0 {
			tree = c.expr(c.below(4))
		}
		for range c.below(3) {
			c.bend(&tree)
		}
		want := canBeRead(tree)
		count[want]++
		if got := parser.Valid(tree); got != want {
			t.Fatalf("Valid(%+v) = %t", tree, got)
		}
	}
	if count[false] < 9000 || count[true] < 9000 {
		t.Error(count)
	}
}

// P2.1: each field of each kind of node, with values of all kinds.
func TestFields(t *testing.T) {
	tree, diags := parser.Parse("module M owner A { record R { a : 1; } ghost shared x : 1; shared y[2] : R = 1; lock l invariant x; rely x; guarantee x; frame x, y; " +
		"proc p(a : 1) locked l { assert 1; x := a ? b : c[1]; release x := !a with g := old(x); atomic { x := 1 } when a + b; atomic { }; cas x, 0, 1 into r with g := 1; " +
		"acquire l; free M.l; fence; spawn t; join t; await all i < 2 : x; skip; if some i < 2 : x { } while a variant b { } while a { } call p(1, 2); ghost local r : 1; } " +
		"proc q() { } } asleep thread t = p(1);")
	if len(diags) != 0 || !parser.Valid(tree) {
		t.Fatal(diags)
	}
	texts := []string{"", "a", "a.b.c", "a.b.c.d", "a.", "1", "if", "b.if", "abcdefghijklmnop", "abcdefghijklmnopq", "b.abcdefghijklmnopq", "<=", "<==", "a b", "_", "a_", "aZ09", "\xc3\xa9"}
	numbers := []int{-1, 0, 1, 2, 999999999, 1000000000}
	check := func() {
		t.Helper()
		if got, want := parser.Valid(tree), canBeRead(tree); got != want {
			t.Errorf("Valid(%s) = %t", short(tree), got)
		}
	}
	for _, n := range nodes(&tree) {
		was := *n
		for _, text := range texts {
			n.Name = text
			check()
			*n = was
			n.Other = text
			check()
			*n = was
		}
		for _, x := range numbers {
			n.N = x
			check()
			*n = was
			n.Len = x
			check()
			*n = was
			n.Init = x
			check()
			*n = was
		}
		n.Ghost = !n.Ghost
		check()
		*n = was
		for kind := -1; kind < 66; kind++ {
			n.Kind = kind
			check()
		}
		*n = was
	}
}

// P2.1: each kid of each kind of node, replaced by a tree of any other kind, removed and added.
func TestKids(t *testing.T) {
	tree, _ := parser.Parse("module M owner A { record R { a : 1; } shared x : 1; lock l invariant x; rely x; frame x, y[0]; " +
		"proc p(a : 1) { assert 1; x := a ? b : c[1]; release x := !a with g := old(x); atomic { x := 1 } when a + b; atomic { }; cas x, 0, 1 into r; " +
		"spawn t; await all i < 2 : x; skip; if x { } while a { } call p(1); local r : 1; } } thread t = p(1);")
	tree.Kids[0].Kids[3].Kids = append(tree.Kids[0].Kids[3].Kids, api.Node{Kind: api.NodeRef, Name: "z"})
	count := len(nodes(&tree))
	var others []api.Node
	seen := map[int]bool{}
	for _, n := range nodes(&tree) {
		if !seen[n.Kind] {
			others = append(others, parser.Strip(*n))
			seen[n.Kind] = true
		}
	}
	others = append(others, api.Node{Kind: api.NodeNone}, api.Node{}, api.Node{Kind: api.NodeRef, Name: "a", Kids: []api.Node{{Kind: api.NodeNumber}}})
	for i := range count {
		n := nodes(&tree)[i]
		kids := n.Kids
		check := func(changed []api.Node) {
			n.Kids = changed
			if got, want := parser.Valid(tree), canBeRead(tree); got != want {
				t.Errorf("Valid(%s) = %t", short(tree), got)
			}
			n.Kids = kids
		}
		for j := range len(kids) + 1 {
			for _, other := range others {
				if j < len(kids) {
					check(append(append(kids[:j:j], other), kids[j+1:]...))
				}
				check(append(append(kids[:j:j], other), kids[j:]...))
			}
			if j < len(kids) {
				check(append(kids[:j:j], kids[j+1:]...))
			}
		}
		check(nil)
		check(append(kids[:len(kids):len(kids)], kids...))
	}
}

// P2.1: only sources and expressions are valid, not their parts.
func TestParts(t *testing.T) {
	tree, _ := parser.Parse("module M owner A { shared x : 1; rely x; proc p(a : 1) { skip; x := 1; atomic { }; } } thread t = p();")
	for _, n := range nodes(&tree) {
		want := n.Kind == api.NodeSource || n.Kind <= api.NodeSome
		if parser.Valid(*n) != want {
			t.Errorf("Valid(%s) is not %t", short(*n), want)
		}
	}
	if parser.Valid(api.Node{}) || parser.Valid(api.Node{Kind: api.NodeNone}) || !parser.Valid(api.Node{Kind: api.NodeSource}) || !parser.Valid(api.Node{Kind: api.NodeSource, At: -5}) {
		t.Error("trees of one node")
	}
}

// P2.1: valid trees have at most 1500 nodes and a depth of at most 40; the length of their text does not matter.
func TestTreeLimits(t *testing.T) {
	leaf := api.Node{Kind: api.NodeRef, Name: "abcdefghijklmnop.abcdefghijklmnop.abcdefghijklmnop"}
	for _, n := range []int{1, 38, 39, 40, 1498, 1499, 1500, 1501, 3000} {
		source := api.Node{Kind: api.NodeSource}
		chain := leaf
		for range n {
			source.Kids = append(source.Kids, api.Node{Kind: api.NodeThread, Name: "t", Other: "p"})
			chain = api.Node{Kind: api.NodeNot, Kids: []api.Node{chain}}
		}
		if parser.Valid(source) != (n < 1500) {
			t.Error(n, "threads")
		}
		if parser.Valid(chain) != (n < 40) {
			t.Error(n, "operators")
		}
		if parser.Valid(balanced(n, leaf)) != (n <= 1500) {
			t.Error(n, "nodes")
		}
	}
	block := api.Node{Kind: api.NodeBlock}
	for depth := 3; depth < 60; depth++ {
		source := api.Node{Kind: api.NodeSource, Kids: []api.Node{{Kind: api.NodeModule, Name: "M", Other: "A", Kids: []api.Node{{Kind: api.NodeProc, Name: "p", Kids: []api.Node{block}}}}}}
		if want := 2*(depth-3)+4 <= 40; parser.Valid(source) != want {
			t.Error(depth, want)
		}
		block = api.Node{Kind: api.NodeBlock, Kids: []api.Node{{Kind: api.NodeWhile, Kids: []api.Node{leaf, {Kind: api.NodeNone}, block}}}}
	}
}

// balanced returns an expression of n nodes and little depth.
func balanced(n int, leaf api.Node) api.Node {
	switch {
	case n == 1:
		return leaf
	case n == 2:
		return api.Node{Kind: api.NodeNot, Kids: []api.Node{leaf}}
	}
	return api.Node{Kind: api.NodeBinary, Name: "*", Kids: []api.Node{balanced((n-1)/2, leaf), balanced(n-1-(n-1)/2, leaf)}}
}

// P1: Valid ends soon for trees that are much too large.
func TestHugeTrees(t *testing.T) {
	leaf := api.Node{Kind: api.NodeNumber}
	deep, shared := leaf, leaf
	for range 60000 {
		deep = api.Node{Kind: api.NodeNot, Kids: []api.Node{deep}}
	}
	for range 20 {
		shared = api.Node{Kind: api.NodeBinary, Name: "+", Kids: []api.Node{shared, shared}}
	}
	if parser.Valid(deep) || parser.Valid(shared) || !parser.Valid(leaf) {
		t.Error("a huge tree is valid")
	}
	if n := parser.Strip(deep); !same(n, deep) {
		t.Error("a deep tree is stripped wrongly")
	}
}

// P2.1: Strip changes nothing but offsets, of any tree, and its result shares no memory with its argument.
func TestStrip(t *testing.T) {
	odd := api.Node{Kind: -7, Name: "?", Other: "o", N: -1, Len: 2, Init: 3, Ghost: true, At: 9, Kids: []api.Node{{Kind: 99, At: -4, Kids: []api.Node{{At: 1}, {At: 2, N: 5}}}}}
	want := api.Node{Kind: -7, Name: "?", Other: "o", N: -1, Len: 2, Init: 3, Ghost: true, Kids: []api.Node{{Kind: 99, Kids: []api.Node{{}, {N: 5}}}}}
	got := parser.Strip(odd)
	if !same(got, want) {
		t.Error(got)
	}
	if odd.At != 9 || odd.Kids[0].At != -4 || odd.Kids[0].Kids[1].At != 2 {
		t.Error("Strip changed its argument")
	}
	got.Kids[0].Kids[0].Name = "changed"
	if odd.Kids[0].Kids[0].Name != "" {
		t.Error("Strip shares memory with its argument")
	}
	c := chance(11)
	for range 200 {
		text, tree := c.written(3, c.gap)
		n, _ := parser.Parse(text)
		if !same(parser.Strip(n), parser.Strip(tree)) || strings.Contains(strings.Trim(offsets(parser.Strip(n)), "0() "), "1") {
			t.Fatal(text)
		}
	}
}

// Rules: a result does not depend on what was done with an earlier one.
func TestFreshResults(t *testing.T) {
	source := "module M owner A { rely x == 1; shared y : ; ? ; }"
	first, diags := parser.Parse(source)
	kept := offsets(first) + short(first)
	for _, n := range nodes(&first) {
		n.Name, n.Kind = "changed", 0
	}
	diags[0] = api.Diag{}
	again, others := parser.Parse(source)
	if offsets(again)+short(again) != kept || diagText(others) != "43 45" {
		t.Error(short(again), others)
	}
}
