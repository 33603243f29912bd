package printer_test

import (
	"strings"

	"relyguard/api"
	"relyguard/parser"
)

// sample is a tree with the text that the chapter requires: an expression, a reference, an item, or a list of items.
type sample struct {
	node api.Node
	text string
}

func read(text string) sample {
	tree, diags := parser.ParseExpr(text)
	if len(diags) > 0 {
		panic(text)
	}
	return sample{parser.Strip(tree), text}
}

// conditions are expressions of all levels, some of which begin or end with a parenthesis or a bracket.
func conditions() []sample {
	var list []sample
	for _, text := range []string{"x", "0", "999999999", "M.a.b", "s[i + 1]", "old(x) <= x", "(a + 1) * !b", "a * (b + c)", "(some i < 2 : x) && y", "!(a && b)",
		"all i < 2 : s[i] == 0", "a ? b : c", "a ==> b ==> c", "(a ==> b) ==> c", "x == s[(y < 2) == z]"} {
		list = append(list, read(text))
	}
	return list
}

func references() []sample {
	return []sample{read("r"), read("M.a.b"), read("s[1]"), read("M.s[all i < 2 : (i + 1) * x]")}
}

// node returns an item of a text; the kids are those of the samples.
func node(text string, n api.Node, kids ...sample) sample {
	for _, kid := range kids {
		n.Kids = append(n.Kids, kid.node)
	}
	return sample{n, text}
}

// joined returns the texts of samples with a separator.
func joined(list []sample, separator string) string {
	var texts []string
	for _, x := range list {
		texts = append(texts, x.text)
	}
	return strings.Join(texts, separator)
}

// assignments returns n assignments, in pairs, and their text.
func assignments(c *chance, n int) ([]sample, string) {
	var pairs []sample
	var texts []string
	for range n {
		r, e := one(c, references()), one(c, conditions())
		pairs = append(pairs, r, e)
		texts = append(texts, r.text+" := "+e.text)
	}
	return pairs, strings.Join(texts, ", ")
}

func one[T any](c *chance, list []T) T { return list[c.below(len(list))] }

// several returns n samples of a list.
func several(c *chance, n int, list []sample) []sample {
	var parts []sample
	for range n {
		parts = append(parts, one(c, list))
	}
	return parts
}

func numbers() []sample { return []sample{read("0"), read("1"), read("255")} }

// simple returns every form of the statements without blocks.
func simple(c *chance) []sample {
	list := []sample{node("fence;\n", api.Node{Kind: api.NodeFence}), node("skip;\n", api.Node{Kind: api.NodeSkip})}
	for _, path := range []string{"m", "M.m", "M.a.b"} {
		list = append(list, node("acquire "+path+";\n", api.Node{Kind: api.NodeAcquire, Name: path}), node("free "+path+";\n", api.Node{Kind: api.NodeFree, Name: path}))
		for n := range 4 {
			e := several(c, n, conditions())
			list = append(list, node("call "+path+"("+joined(e, ", ")+");\n", api.Node{Kind: api.NodeCall, Name: path}, e...))
		}
	}
	list = append(list, node("spawn t1;\n", api.Node{Kind: api.NodeSpawn, Name: "t1"}), node("join t_;\n", api.Node{Kind: api.NodeJoin, Name: "t_"}))
	for _, e := range conditions() {
		list = append(list, node("assert "+e.text+";\n", api.Node{Kind: api.NodeAssert}, e), node("await "+e.text+";\n", api.Node{Kind: api.NodeAwait}, e))
	}
	list = append(list, node("local r : 3;\n", api.Node{Kind: api.NodeLocal, Name: "r", N: 3}), node("ghost local g : 0;\n", api.Node{Kind: api.NodeLocal, Name: "g", Ghost: true}))
	return append(list, writes(c)...)
}

// writes returns every form of the statements with assignments.
func writes(c *chance) []sample {
	var list []sample
	none := sample{api.Node{Kind: api.NodeNone}, ""}
	for n := range 3 {
		first, firstText := assignments(c, 1)
		more, text := assignments(c, n)
		with := ""
		if n > 0 {
			with = " with " + text
			text += " "
		}
		list = append(list, node(firstText+with+";\n", api.Node{Kind: api.NodeAssign}, append(first, more...)...))
		list = append(list, node("release "+firstText+with+";\n", api.Node{Kind: api.NodeAssign, N: 1}, append(first, more...)...))
		list = append(list, node("atomic { "+text+"};\n", api.Node{Kind: api.NodeAtomic}, append([]sample{none}, more...)...))
		e := several(c, 3, conditions())
		list = append(list, node("atomic { "+text+"} when "+e[0].text+";\n", api.Node{Kind: api.NodeAtomic}, append(e[:1:1], more...)...))
		r, s := one(c, references()), one(c, references())
		cas := "cas " + r.text + ", " + e[1].text + ", " + e[2].text + " into " + s.text
		list = append(list, node(cas+with+";\n", api.Node{Kind: api.NodeCas}, append([]sample{r, e[1], e[2], s}, more...)...))
	}
	return list
}

// braces returns the text of a list after a head.
func braces(head string, list []sample) string {
	text := head + " {\n"
	for line := range strings.Lines(joined(list, "")) {
		text += "  " + line
	}
	return text + "}\n"
}

func block(list []sample) sample { return node("", api.Node{Kind: api.NodeBlock}, list...) }

func branch(e sample, yes, no []sample) sample {
	text := braces("if "+e.text, yes)
	if len(no) > 0 {
		text = strings.TrimSuffix(text, "\n") + braces(" else", no)
	}
	return node(text, api.Node{Kind: api.NodeIf}, e, block(yes), block(no))
}

func loop(e sample, list []sample) sample {
	none := sample{api.Node{Kind: api.NodeNone}, ""}
	return node(braces("while "+e.text, list), api.Node{Kind: api.NodeWhile}, e, none, block(list))
}

func bounded(e, variant sample, list []sample) sample {
	return node(braces("while "+e.text+" variant "+variant.text, list), api.Node{Kind: api.NodeWhile}, e, variant, block(list))
}

// statements returns every form of the statements, with nested ones up to a depth in the blocks.
func statements(c *chance, depth int) []sample {
	list := simple(c)
	if depth == 0 {
		return list
	}
	inner := statements(c, depth-1)
	for n := range 9 {
		e, f := one(c, conditions()), one(c, conditions())
		a, b := several(c, n%3, inner), several(c, n/3, inner)
		list = append(list, branch(e, a, b), loop(e, a), bounded(e, f, b))
	}
	return list
}

// typed returns n names with numbers of bits, which end with a text.
func typed(kind, n int, end string) []sample {
	list := []sample{node("v : 2"+end, api.Node{Kind: kind, Name: "v", N: 2}), node("w_1 : 0"+end, api.Node{Kind: kind, Name: "w_1"}), node("v : 8"+end, api.Node{Kind: kind, Name: "v", N: 8})}
	return list[:n]
}

func record(n int) sample {
	fields := typed(api.NodeField, n, ";\n")
	return node(braces("record acc", fields), api.Node{Kind: api.NodeRecord, Name: "acc"}, fields...)
}

// variables returns every form of the declarations of shared variables.
func variables() []sample {
	var list []sample
	for i := range 16 {
		n := api.Node{Kind: api.NodeShared, Name: "a"}
		text := "shared a"
		if i&1 > 0 {
			n.Ghost, text = true, "ghost "+text
		}
		if i&2 > 0 {
			n.Len, text = 4, text+"[4]"
		}
		if i&4 > 0 {
			n.Other, text = "acc", text+" : acc"
		} else {
			n.N, text = 2*(i&1), text+" : "+[]string{"0", "2"}[i&1]
		}
		if i&8 > 0 {
			n.Init, text = 1, text+" = 1"
		}
		list = append(list, node(text+";\n", n))
	}
	return list
}

func procedure(c *chance, params int, locked string, list []sample) sample {
	p := typed(api.NodeParam, params, "")
	head := "proc put(" + joined(p, ", ") + ")"
	if locked != "" {
		head += " locked " + locked
	}
	return node(braces(head, list), api.Node{Kind: api.NodeProc, Name: "put", Other: locked}, append(p, block(list))...)
}

// declarations returns every form of the declarations.
func declarations(c *chance) []sample {
	list := append(variables(), record(0), record(1), record(3))
	for n, e := range conditions() {
		list = append(list, node("lock m invariant "+e.text+";\n", api.Node{Kind: api.NodeLock, Name: "m"}, e))
		list = append(list, node("rely "+e.text+";\n", api.Node{Kind: api.NodeRely}, e), node("guarantee "+e.text+";\n", api.Node{Kind: api.NodeGuar}, e))
		frame := several(c, 1+n%3, references()[:2])
		list = append(list, node("frame "+joined(frame, ", ")+";\n", api.Node{Kind: api.NodeFrame}, frame...))
	}
	inner := statements(c, 2)
	for n := range 40 {
		list = append(list, procedure(c, n%4, []string{"", "m"}[n/4%2], several(c, n/4, inner)))
	}
	return list
}

func module(list []sample) sample {
	return node(braces("module M owner A_1", list), api.Node{Kind: api.NodeModule, Name: "M", Other: "A_1"}, list...)
}

func threads(c *chance) []sample {
	var list []sample
	for n := range 4 {
		args := several(c, n, numbers())
		text := "thread t = M.put(" + joined(args, ", ") + ");\n"
		list = append(list, node(text, api.Node{Kind: api.NodeThread, Name: "t", Other: "M.put"}, args...))
		list = append(list, node("asleep "+text, api.Node{Kind: api.NodeThread, Name: "t", Other: "M.put", N: 1}, args...))
	}
	return list
}

func source(list []sample) sample {
	return node(joined(list, ""), api.Node{Kind: api.NodeSource}, list...)
}

// inProcedure returns a source with statements in a procedure.
func inProcedure(c *chance, list ...sample) sample {
	return source([]sample{module([]sample{procedure(c, 0, "", list)})})
}

// sources returns sources with each form of each item, and random ones with several items.
func sources() []sample {
	c := chance(5)
	list := []sample{source(nil), source([]sample{module(nil)}), source([]sample{module(nil), module(nil)})}
	for _, x := range statements(&c, 2) {
		list = append(list, inProcedure(&c, x))
	}
	parts, units := declarations(&c), threads(&c)
	for _, x := range parts {
		list = append(list, source([]sample{module([]sample{x})}))
	}
	for _, x := range units {
		list = append(list, source([]sample{x}))
	}
	for n := range 300 {
		units = append(units, module(several(&c, n%8, parts)))
		list = append(list, source(several(&c, 1+n%12, units)))
	}
	return list
}
