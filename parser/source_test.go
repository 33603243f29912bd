package parser_test

import (
	"strings"
	"testing"

	"relyguard/api"
	"relyguard/lexer"
	"relyguard/parser"
)

// inProc puts statements into a source.
func inProc(text string) string { return "module Mod owner Abe { proc pr(a:1) {" + text + "} }" }

// P2.1: wrong items of all lists, with what is left of the source.
func TestWrongItems(t *testing.T) {
	for source, want := range map[string]string{
		"module M owner A { shared x : ; shared y : 1; }": "30: source(module M A(shared y N1))",
		"thread t = M.p(1":                                                     "16E: source",
		"x; thread t = p();":                                                   "0: source(thread t p)",
		"thread t = p(); }":                                                    "16: source(thread t p)",
		"} thread t = p();":                                                    "0: source(thread t p)",
		"}; thread t = p();":                                                   "0 1: source(thread t p)",
		"? } thread t = p();":                                                  "0: source(thread t p)",
		"? ; } thread t = p();":                                                "0 4: source(thread t p)",
		"asleep module M owner A { } thread t = p();":                          "7: source(thread t p)",
		"thread t = p(x) { ; } ; thread u = q();":                              "13: source(thread u q)",
		"thread t = a.b.c.d(); thread u = q();":                                "16: source(thread u q)",
		"thread t = p(1,); thread u = q();":                                    "15: source(thread u q)",
		"thread t.a = p(); thread u = q();":                                    "8: source(thread u q)",
		"module M { shared x : 1; } thread t = p();":                           "9: source(thread t p)",
		"module M owner A.B { shared x : 1; { } } ; thread t = p();":           "16: source(thread t p)",
		"module M owner A { fence; skip; rely 1; }":                            "19 26: source(module M A(rely(number N1)))",
		"module M owner A { record R { a : 1; b; c : 2; } }":                   "38: source(module M A(record R(field a N1, field c N2)))",
		"module M owner A { record R { a : 1 } shared x : 1; }":                "36: source(module M A(record R, shared x N1))",
		"module M owner A { record R { a : 1; ? { b : 1; } c : 1; } }":         "37: source(module M A(record R(field a N1, field c N1)))",
		"module M owner A { shared x[0] : 1; rely 1; }":                        "28L: source(module M A(rely(number N1)))",
		"module M owner A { shared x[0 : 1; rely 1; }":                         "28L: source(module M A(rely(number N1)))",
		"module M owner A { shared x[y] : 1; rely 1; }":                        "28: source(module M A(rely(number N1)))",
		"module M owner A { ghost rely 1; rely 1; }":                           "25: source(module M A(rely(number N1)))",
		"module M owner A { frame x[1]; frame y, ; frame z; }":                 "26 40: source(module M A(frame(ref z)))",
		"module M owner A { lock a.b invariant 1; lock l invariant; }":         "25 57: source(module M A)",
		"module M owner A { shared x : 1 = y; shared x : R.S; shared x = 1; }": "34 49 62: source(module M A)",
		"module M owner A { proc p(a) { skip; } ; proc q() skip; proc r() locked a.b { } proc s(){} }": "27 50 73: source(module M A(proc s(block)))",
		"module M owner A { proc p() { skip; x := } } ; } thread t = p();":                             "41 45 47: source(module M A(proc p(block(skip))), thread t p)",
		"module M owner A { ? } rely 1; }":                                                             "19 23 31: source(module M A)",
		"module M owner A { shared x : 1; ":                                                            "33E: source",
		"module M owner A { proc p() { if x { skip; ":                                                  "43E: source",
		"module M owner A { proc p() { x := ; if y { ":                                                 "35 44E: source",
		"module M owner A { proc p() { x := { ; } } ":                                                  "35 43E: source",
		"module M owner A { ? { ; } rely 1; } ? { { } ; } ; ;":                                         "19 37 51: source(module M A(rely(number N1)))",
		"module M owner A { ? ":                                                                        "19 21E: source",
		"? ":                                                                                           "0: source",
		"module":                                                                                       "6E: source",
		" module M // }\n":                                                                             "15E: source",
	} {
		tree, diags := parser.Parse(source)
		if got := diagText(diags) + ": " + short(tree); got != want {
			t.Errorf("Parse(%q) = %s; want %s", source, got, want)
		}
	}
}

func TestWrongStatements(t *testing.T) {
	for text, want := range map[string]string{
		"skip; ? ; fence;":                                "6: skip, fence",
		"? fence; skip;":                                  "0: skip",
		"skip; x := ":                                     "11: skip", // the wrong token is the brace that ends the block
		"if x { y := } else { skip; }":                    "12: if(ref x, block, block(skip))",
		"if x { y := ; } else z; skip;":                   "12 21: skip",
		"if x { skip; } else if y { } fence;":             "20: fence",
		"if x { skip; } { fence; } skip;":                 "15: if(ref x, block(skip), block), skip",
		"if x skip; fence;":                               "5: fence",
		"else { fence; } skip;":                           "0: skip",
		"while x variant { skip; } fence;":                "16: fence",
		"x := 1, y := 2; skip;":                           "6: skip",
		"release fence; skip;":                            "8: skip",
		"release release x := 1; skip;":                   "8: skip",
		"x := 1 with ; skip;":                             "12: skip",
		"x := 1 with y := 2, release z := 3; skip;":       "20: skip",
		"x.y.z.w := 1; skip;":                             "5: skip",
		"x[1][2] := 1; skip;":                             "4: skip",
		"x = 1; skip;":                                    "2: skip",
		"1 := x; skip;":                                   "0: skip",
		"(x) := 1; skip;":                                 "0: skip",
		"old(x) := 1; skip;":                              "0: skip",
		"ghost x := 1; skip;":                             "6: skip",
		"ghost shared x : 1; skip;":                       "6: skip",
		"local x.y : 1; skip;":                            "7: skip",
		"local x : y; skip;":                              "10: skip",
		"local x : 1 = 0; skip;":                          "12: skip",
		"acquire a.b.c.d; free l[0]; skip;":               "13 23: skip",
		"spawn a.b; join 1; skip;":                        "7 16: skip",
		"call p; call p(1; call p(,); skip;":              "6 16 25: skip",
		"call p(x := 1); skip;":                           "9: skip",
		"assert x == ; assert; await x y; fence x; skip;": "12 20 30 39: skip",
		"assert all x; skip;":                             "12: skip",
		"cas x, 1 into y; cas x, 0, 1; cas x + 1, 0, 1 into y; cas x, 0, 1 into y + 1; skip;": "9 28 36 73: skip",
		// Between the braces of atomic the depth of the braces is 1 at the beginning.
		"atomic { x := ; y := 1 }; skip;":              "14: skip",
		"atomic { x := 1; y := 1 }; skip;":             "15: skip",
		"atomic { x := } skip;":                        "14: skip",
		"atomic { x := }; skip;":                       "14: skip",
		"atomic { x := }; ; skip;":                     "14 17: skip",
		"atomic { x := { } ; } skip;":                  "14: skip",
		"atomic { x := { } ; } ; skip;":                "14: skip",
		"atomic { x := 1, }; skip;":                    "17: skip",
		"atomic { , }; skip;":                          "9: skip",
		"atomic { { } ; }; skip;":                      "9: skip",
		"atomic { skip; fence; }; skip;":               "9: skip",
		"atomic { release x := 1 }; skip;":             "9: skip",
		"atomic { x := 1 with y := 2 }; skip;":         "16: skip",
		"atomic { x }; skip;":                          "11: skip",
		"atomic x := 1; skip;":                         "7: skip",
		"atomic ; skip;":                               "7: skip",
		"atomic { } skip; fence;":                      "11: fence",
		"atomic { x := 1 } when ; fence;":              "23: fence",
		"atomic { x := 1 } when { ; } skip;":           "23: skip",
		"atomic { x := 1 } when x { ; } ; skip;":       "25: skip",
		"atomic { x := 1 } with y := 2; skip;":         "18: skip",
		"if x { atomic { y := } skip; } fence;":        "21: if(ref x, block(skip), block), fence",
		"atomic { x := { ; ? ; y := }; skip; } fence;": "14: fence",
		"atomic { x := ; ? ; y := 2 }; ? ; skip;":      "14 30: skip",
	} {
		source := inProc(text)
		before := len(inProc("")) - len("} }")
		tree, diags := parser.Parse(source)
		for i := range diags {
			diags[i].At -= before
		}
		errors, kids, _ := strings.Cut(want, ": ")
		want = errors + ": source(module Mod Abe(proc pr(param a N1, block(" + kids + "))))"
		if got := diagText(diags) + ": " + short(tree); got != want {
			t.Errorf("Parse(%q) = %s; want %s", source, got, want)
		}
		agreeOnSource(t, source)
	}
}

// diagText writes the offsets of diagnostics, with a letter for errors other than ErrSyntax.
func diagText(diags []api.Diag) string {
	var list []string
	for _, d := range diags {
		list = append(list, number(d.At)+map[api.Errno]string{api.ErrSyntax: "", api.ErrEnd: "E", api.ErrLimit: "L", api.ErrToken: "T"}[d.Err])
	}
	return strings.Join(list, " ")
}

// P2.1: a source that the lexer rejects.
func TestRejectedSources(t *testing.T) {
	for source, want := range map[string]string{
		"thread t = p(); > ?":                      "16T",
		"? ; /":                                    "4T",
		strings.Repeat(" ", 4001):                  "0L",
		strings.Repeat("; ", 1501):                 "3000L",
		"thread abcdefghijklmnopq = p(); ?":        "7T",
		"module M owner A { shared x[0] : 01; }":   "33T",
		"module M owner A { shared x : 9999999999": "30T",
	} {
		tree, diags := parser.Parse(source)
		if diagText(diags) != want || short(tree) != "source" {
			t.Errorf("Parse(%.40q) = %s, %s; want %s", source, short(tree), diagText(diags), want)
		}
	}
}

// P2.1: an empty source is a NodeSource without kids.
func TestEmptySources(t *testing.T) {
	for _, source := range []string{"", " \n", "// module"} {
		if tree, diags := parser.Parse(source); !same(tree, api.Node{Kind: api.NodeSource}) || len(diags) != 0 {
			t.Errorf("Parse(%q) = %v, %v", source, tree, diags)
		}
	}
}

// P2.1: only the first 20 diagnostics are reported, and what follows is still parsed.
func TestManyDiagnostics(t *testing.T) {
	for n := range 60 {
		for _, wrong := range []string{"?;", "}", "thread t p();", "module M { }"} {
			source := strings.Repeat(wrong, n)
			tree, diags := parser.Parse(source + "thread t = p();")
			if len(diags) != min(n, 20) || short(tree) != "source(thread t p)" {
				t.Errorf("%d times %q: %s, %v", n, wrong, short(tree), diags)
			}
			for i, d := range diags {
				at := i*len(wrong) + map[string]int{"thread t p();": 9, "module M { }": 9}[wrong]
				if d != (api.Diag{Err: api.ErrSyntax, At: at}) {
					t.Errorf("%d times %q: %v", n, wrong, diags)
				}
			}
			agreeOnSource(t, source+"module M owner A { "+source)
		}
	}
}

// P2.1: a source with a tree that is too deep has no kids, unless it has another diagnostic.
func TestSourceLimits(t *testing.T) {
	for depth := 1; depth < 60; depth++ {
		expr := strings.Repeat("!", depth-1) + "a"
		for shape, levels := range map[string]int{
			"module M owner A { rely EXPR; }":                                                  3,
			"module M owner A { proc p() { assert EXPR; } }":                                   5,
			"module M owner A { proc p() { if EXPR { } } }":                                    5,
			"module M owner A { proc p() { while a { if b { } else { x[EXPR] := 1; } } } }":    10,
			"thread t = p(); module M owner A { lock l invariant EXPR; } module N owner A { }": 3,
		} {
			source := strings.Replace(shape, "EXPR", expr, 1)
			tree, diags := parser.Parse(source)
			if good := levels+depth <= 40; good && (len(diags) != 0 || !parser.Valid(tree)) || !good && (short(tree) != "source" || diagText(diags) != "0L") {
				t.Errorf("Parse(%q) = %s, %v", source, short(tree), diags)
			}
			tree, diags = parser.Parse(source + "?;")
			if len(tree.Kids) == 0 || diagText(diags) != number(len(source)) {
				t.Errorf("Parse(%q) = %s, %v", source+"?;", short(tree), diags)
			}
		}
	}
	nested := "module M owner A { proc p() { " + strings.Repeat("if a { ", 17) + "skip; " + strings.Repeat("} ", 19)
	if tree, diags := parser.Parse(nested); len(diags) != 0 || !parser.Valid(tree) {
		t.Error(diags)
	}
	nested = strings.Replace(nested, "skip;", "if a { skip; }", 1)
	if tree, diags := parser.Parse(nested); diagText(diags) != "0L" || short(tree) != "source" {
		t.Error(diags)
	}
	deep := "module M owner A { proc p() { " + strings.Repeat("if a{", 370)
	if tree, diags := parser.Parse(deep); diagText(diags) != number(len(deep))+"E" || short(tree) != "source" {
		t.Error(diags)
	}
}

// written returns a random source that the lexer accepts, and its tree.
func (c *chance) written(size int, gap func(before, after string) string) (string, api.Node) {
	for {
		tree := c.source(size)
		w := writer{gap: gap, enclose: func(bool) bool { return c.below(9) == 0 }}
		text := w.write(&tree)
		if _, err, _ := lexer.Lex(text); err == api.OK {
			return text, tree
		}
	}
}

// P2.1, P2.2, P2.5: the tree of a source, with any gaps.
func TestRandomSources(t *testing.T) {
	c := chance(4)
	for range 1500 {
		text, tree := c.written(c.below(4), c.gap)
		n, diags := parser.Parse(text)
		if len(diags) != 0 || !same(n, tree) || !parser.Valid(n) {
			t.Fatalf("Parse(%q) = %s, %v; want %s", text, short(n), diags, short(tree))
		}
		agreeOnSource(t, text)
	}
}

// P2.5: sources that differ in their gaps have trees that differ in their offsets, and so have their diagnostics.
func TestLayout(t *testing.T) {
	c := chance(5)
	for range 600 {
		text, _ := c.written(3, plainGap)
		text = c.changed(text, c.below(3))
		tokens, _, _ := lexer.Lex(text)
		var b strings.Builder
		moved := map[int]int{}
		for _, x := range tokens {
			b.WriteString(c.of(" ", "\n", "// ? }\n\t"))
			moved[x.At] = b.Len()
			b.WriteString(x.Text)
		}
		moved[len(text)] = b.Len()
		tree, diags := parser.Parse(text)
		again, others := parser.Parse(b.String())
		for i := range diags {
			diags[i].At = moved[diags[i].At]
		}
		if !same(move(tree, moved), again) || !sameDiags(diags, others) {
			t.Fatalf("Parse(%q) = %v, %v; of %q, %v, %v", text, tree, diags, b.String(), again, others)
		}
	}
}

// move replaces the offsets of a tree, except for that of the source itself.
func move(n api.Node, moved map[int]int) api.Node {
	if n.Kind != api.NodeSource {
		n.At = moved[n.At]
	}
	kids := n.Kids
	n.Kids = nil
	for _, kid := range kids {
		n.Kids = append(n.Kids, move(kid, moved))
	}
	return n
}

// P2.1, P2.2, P2.9: sources with tokens that are removed, inserted, replaced and swapped.
func TestChangedSources(t *testing.T) {
	c := chance(6)
	for range 8000 {
		text, _ := c.written(1+c.below(3), plainGap)
		if text == "" {
			continue
		}
		text = c.changed(text, 1+c.below(4))
		if _, err, _ := lexer.Lex(text); err != api.OK {
			continue
		}
		agreeOnSource(t, text)
		sound(t, text)
	}
}

// sound checks P2.2 and P2.9.
func sound(t *testing.T, source string) {
	t.Helper()
	tree, diags := parser.Parse(source)
	if !parser.Valid(tree) {
		t.Fatalf("Parse(%q) = %s", source, short(tree))
	}
	for i := range diags {
		if i > 0 && diags[i].At <= diags[i-1].At {
			t.Fatalf("Parse(%q) has %v", source, diags)
		}
	}
	if len(diags) > 0 {
		part := upToToken(source, diags[0].At)
		if _, again := parser.Parse(part); len(again) == 0 || again[0] != diags[0] {
			t.Fatalf("Parse(%q) has %v, but %q has %v", source, diags, part, again)
		}
	}
}

// P2.1 for all beginnings of an item with few tokens, in each list.
func TestShortItems(t *testing.T) {
	for _, x := range []struct {
		before, after string
		words         []string
	}{
		{"", "", []string{"module", "thread", "asleep", "owner", "a", "1", "{", "}", ";", "="}},
		{"thread t = p", " thread u = q ( ) ;", []string{"(", ")", "1", ",", ".", "a", ";", "{", "}"}},
		{"module M owner A {", "} thread u = q ( ) ;", []string{"ghost", "shared", "rely", "frame", "proc", "record", "a", "0", "{", "}", ";"}},
		{"module M owner A { shared a", "; rely 1 ; }", []string{"[", "]", "0", "1", ":", "=", "a", ";", "}"}},
		{"module M owner A { proc p (", "{ skip ; } rely 1 ; }", []string{")", "a", ":", "1", ",", "locked", "{", "}", ";"}},
		{"module M owner A { record R {", "} rely 1 ; }", []string{"a", ":", "1", ";", "{", "}", "ghost"}},
		{"module M owner A { proc p ( ) {", "} }", []string{"fence", "release", "a", ":=", "1", "{", "}", ";", "atomic", "if", "else", "ghost", "local"}},
		{"module M owner A { proc p ( ) { atomic", "; skip ; } }", []string{"{", "}", "a", ":=", "1", ",", ";", "when"}},
		{"module M owner A { proc p ( ) { atomic { a := 1", "} ; skip ; } }", []string{"{", "}", "a", ":=", "1", ",", ";", "when"}},
		{"module M owner A { proc p ( ) { if a {", "} skip ; } }", []string{"{", "}", "else", "skip", ";", "a", "?"}},
		{"module M owner A { proc p ( ) { a := 1", "; skip ; } }", []string{"with", "a", ":=", "1", ",", ";", "}", "["}},
		{"module M owner A { proc p ( ) { cas a , b , c", "; skip ; } }", []string{"into", "a", ",", "with", ";", "}", ":="}},
		{"module M owner A { proc p ( ) { while a", "{ } skip ; } }", []string{"variant", "a", "{", "}", ";", "+"}},
	} {
		for n := range 5 {
			sequences(x.words, n, func(text string) {
				if n < 4 || len(x.words) < 9 {
					agreeOnSource(t, x.before+text+x.after)
					agreeOnSource(t, x.before+text)
				}
			})
		}
	}
}

// P2.6: a source without diagnostics, a line feed and another source.
func TestConcatenation(t *testing.T) {
	c := chance(7)
	for range 800 {
		first, tree := c.written(c.below(3), c.gap)
		second, _ := c.written(c.below(3), plainGap)
		second = c.changed(second, c.below(4))
		if _, err, _ := lexer.Lex(first + "\n" + second); err != api.OK {
			continue
		}
		rest, diags := parser.Parse(second)
		n, all := parser.Parse(first + "\n" + second)
		moved := map[int]int{}
		for i := range len(second) + 1 {
			moved[i] = i + len(first) + 1
		}
		for i := range diags {
			diags[i].At = moved[diags[i].At]
		}
		tree.Kids = append(tree.Kids, move(rest, moved).Kids...)
		if !same(n, tree) || !sameDiags(all, diags) {
			t.Fatalf("Parse(%q) = %v, %v; want %v, %v", first+"\n"+second, n, all, tree, diags)
		}
	}
}

// starts returns the offsets of the items of a source, and of the ends of its lists.
func starts(source string, tree api.Node) []int {
	list := []int{len(source)}
	var visit func(n api.Node)
	visit = func(n api.Node) {
		if n.Kind >= api.NodeAssert && n.Kind <= api.NodeThread && n.Kind != api.NodeBlock && n.Kind != api.NodeParam {
			list = append(list, n.At)
		}
		for _, kid := range n.Kids {
			visit(kid)
		}
	}
	visit(tree)
	tokens, _, _ := lexer.Lex(source)
	var atomic []bool // for each open brace, whether it encloses no list
	for i, x := range tokens {
		switch last := len(atomic) - 1; x.Text {
		case "{":
			atomic = append(atomic, tokens[i-1].Text == "atomic")
		case "}":
			if !atomic[last] {
				list = append(list, x.At)
			}
			atomic = atomic[:last]
		}
	}
	return list
}

// P2.7: the tokens ? and ; before an item or the end of any list.
func TestRecovery(t *testing.T) {
	c := chance(8)
	for range 300 {
		source, tree := c.written(c.below(4), c.gap)
		for _, at := range starts(source, tree) {
			text := source[:at] + "\n?;" + source[at:]
			if _, err, _ := lexer.Lex(text); err != api.OK {
				continue
			}
			n, diags := parser.Parse(text)
			if !sameDiags(diags, []api.Diag{{Err: api.ErrSyntax, At: at + 1}}) || !same(parser.Strip(n), parser.Strip(tree)) {
				t.Fatalf("Parse(%q) = %s, %v; want %s", text, short(n), diags, short(tree))
			}
		}
	}
}

// P2.8: a source that is truncated after a token.
func TestTruncation(t *testing.T) {
	c := chance(9)
	for range 300 {
		source, tree := c.written(c.below(4), plainGap)
		tokens, _, _ := lexer.Lex(source)
		begun := map[int]bool{}
		for _, n := range tree.Kids {
			begun[n.At] = true
		}
		ends := 0
		for i, x := range tokens {
			if begun[x.At] {
				ends++
			}
			end := x.At + len(x.Text)
			n, diags := parser.Parse(source[:end])
			if i+1 == len(tokens) || begun[tokens[i+1].At] {
				if len(diags) != 0 || len(n.Kids) != ends {
					t.Fatalf("Parse(%q) = %s, %v", source[:end], short(n), diags)
				}
			} else if !sameDiags(diags, []api.Diag{{Err: api.ErrEnd, At: end}}) || len(n.Kids) != ends-1 {
				t.Fatalf("Parse(%q) = %s, %v", source[:end], short(n), diags)
			}
		}
	}
}
