package parser_test

import (
	"strings"
	"testing"

	"relyguard/api"
	"relyguard/lexer"
	"relyguard/parser"
)

// short writes a tree without offsets: its kind, its fields that are not zero, and its kids.
func short(n api.Node) string {
	names := map[int]string{1: "number", 2: "ref", 3: "old", 4: "not", 5: "binary", 6: "cond", 7: "all", 8: "some", 20: "assert", 21: "assign",
		22: "atomic", 23: "cas", 24: "acquire", 25: "free", 26: "fence", 27: "spawn", 28: "join", 29: "await", 30: "skip", 31: "if", 32: "while",
		33: "call", 34: "block", 35: "local", 50: "shared", 51: "record", 52: "field", 53: "lock", 54: "rely", 55: "guar", 56: "frame",
		57: "proc", 58: "param", 60: "module", 61: "thread", 62: "source", 63: "none"}
	text := names[n.Kind]
	for _, part := range []string{n.Name, n.Other} {
		if part != "" {
			text += " " + part
		}
	}
	for i, x := range []int{n.N, n.Len, n.Init} {
		if x != 0 {
			text += " " + []string{"N", "Len", "Init"}[i] + number(x)
		}
	}
	if n.Ghost {
		text += " ghost"
	}
	if len(n.Kids) == 0 {
		return text
	}
	var kids []string
	for _, kid := range n.Kids {
		kids = append(kids, short(kid))
	}
	return text + "(" + strings.Join(kids, ", ") + ")"
}

func number(n int) string {
	if n < 10 {
		return string(rune('0' + n))
	}
	return number(n/10) + string(rune('0'+n%10))
}

// P2.1: every construct yields the node of its row.
func TestExpressionNodes(t *testing.T) {
	for text, want := range map[string]string{
		"0":                        "number",
		"999999999":                "number N999999999",
		"x":                        "ref x",
		"a.b.c":                    "ref a.b.c",
		"a . b":                    "ref a.b",
		"a.b[i + 1]":               "ref a.b(binary +(ref i, number N1))",
		"a[all i < 2 : i]":         "ref a(all i N2(ref i))",
		"old(x)":                   "old(ref x)",
		"old ( a.b[old(i)] )":      "old(ref a.b(old(ref i)))",
		"!!x":                      "not(not(ref x))",
		"((x))":                    "ref x",
		"a ? b : c":                "cond(ref a, ref b, ref c)",
		"a ? b : c ? d : e":        "cond(ref a, ref b, cond(ref c, ref d, ref e))",
		"a ? b ? c : d : e":        "cond(ref a, cond(ref b, ref c, ref d), ref e)",
		"a ==> b ==> c":            "binary ==>(ref a, binary ==>(ref b, ref c))",
		"a ==> b ? c : d":          "cond(binary ==>(ref a, ref b), ref c, ref d)",
		"all i < 8 : some j < 0:k": "all i N8(some j(ref k))",
		"all i < 2 : a ? b : c":    "all i N2(cond(ref a, ref b, ref c))",
		"a - b - c":                "binary -(binary -(ref a, ref b), ref c)",
		"a - (b - c)":              "binary -(ref a, binary -(ref b, ref c))",
		"a + b * c == d && !e":     "binary &&(binary ==(binary +(ref a, binary *(ref b, ref c)), ref d), not(ref e))",
		"!a * b":                   "binary *(not(ref a), ref b)",
		"x && a < b || !(c <= d)":  "binary ||(binary &&(ref x, binary <(ref a, ref b)), not(binary <=(ref c, ref d)))",
		"allx":                     "ref allx",
	} {
		if n, diags := parser.ParseExpr(text); len(diags) != 0 || short(n) != want {
			t.Errorf("ParseExpr(%q) = %s, %v; want %s", text, short(n), diags, want)
		}
	}
}

// P2.1: every statement yields the node of its row.
func TestStatementNodes(t *testing.T) {
	for text, want := range map[string]string{
		"":                                    "",
		"assert x;":                           "assert(ref x)",
		"await all i < 2 : x;":                "await(all i N2(ref x))",
		"fence;":                              "fence",
		"skip;":                               "skip",
		"x := 1;":                             "assign(ref x, number N1)",
		"release a.x[0] := 1;":                "assign N1(ref a.x(number), number N1)",
		"x := 1 with g := 2, h[i] := x;":      "assign(ref x, number N1, ref g, number N2, ref h(ref i), ref x)",
		"release x := y with g := 0;":         "assign N1(ref x, ref y, ref g, number)",
		"atomic { };":                         "atomic(none)",
		"atomic { } when x;":                  "atomic(ref x)",
		"atomic { x := 1, y := 2 };":          "atomic(none, ref x, number N1, ref y, number N2)",
		"atomic { x := 1 } when x == 0;":      "atomic(binary ==(ref x, number), ref x, number N1)",
		"cas x, 0, 1 into r;":                 "cas(ref x, number, number N1, ref r)",
		"cas a[i], b ? c : d, 1 into r[0];":   "cas(ref a(ref i), cond(ref b, ref c, ref d), number N1, ref r(number))",
		"cas x, 0, 1 into r with g := 1;":     "cas(ref x, number, number N1, ref r, ref g, number N1)",
		"acquire M.l; free l;":                "acquire M.l, free l",
		"spawn t; join t;":                    "spawn t, join t",
		"if x { }":                            "if(ref x, block, block)",
		"if x { skip; } else { fence; }":      "if(ref x, block(skip), block(fence))",
		"if x { } else { } skip;":             "if(ref x, block, block), skip",
		"if x { if y { } } else { }":          "if(ref x, block(if(ref y, block, block)), block)",
		"while x { }":                         "while(ref x, none, block)",
		"while x variant 3 - r { skip; }":     "while(ref x, binary -(number N3, ref r), block(skip))",
		"call p();":                           "call p",
		"call M.p(1, x + 1, some i < 2 : i);": "call M.p(number N1, binary +(ref x, number N1), some i N2(ref i))",
		"local r : 2;":                        "local r N2",
		"ghost local g : 0;":                  "local g ghost",
	} {
		source := "module M owner A { proc p() {" + text + "} }"
		list := ""
		if want != "" {
			list = "(" + want + ")"
		}
		want = "source(module M A(proc p(block" + list + ")))"
		if n, diags := parser.Parse(source); len(diags) != 0 || short(n) != want {
			t.Errorf("Parse(%q) = %s, %v; want %s", source, short(n), diags, want)
		}
	}
}

// P2.1: every declaration, module and thread yields the node of its row.
func TestDeclarationNodes(t *testing.T) {
	for text, want := range map[string]string{
		"record R { }":                         "record R",
		"record R { a : 1; b : 0; }":           "record R(field a N1, field b)",
		"shared x : 2;":                        "shared x N2",
		"shared x[3] : 2 = 1;":                 "shared x N2 Len3 Init1",
		"ghost shared x : R = 0;":              "shared x R ghost",
		"shared x[1] : R;":                     "shared x R Len1",
		"shared x[999999999] : 0 = 999999999;": "shared x Len999999999 Init999999999",
		"lock l invariant x == 0;":             "lock l(binary ==(ref x, number))",
		"rely old(x) <= x;":                    "rely(binary <=(old(ref x), ref x))",
		"guarantee 1;":                         "guar(number N1)",
		"frame x, a.b.c;":                      "frame(ref x, ref a.b.c)",
		"proc p() { }":                         "proc p(block)",
		"proc p(a : 1, b : 8) locked l { }":    "proc p l(param a N1, param b N8, block)",
	} {
		source := "module M owner A { " + text + " } asleep thread t = M.p(1, 0); thread u = p();"
		want = "source(module M A(" + want + "), thread t M.p N1(number N1, number), thread u p)"
		if n, diags := parser.Parse(source); len(diags) != 0 || short(n) != want {
			t.Errorf("Parse(%q) = %s, %v; want %s", source, short(n), diags, want)
		}
	}
}

// offsets writes the offsets of a tree.
func offsets(n api.Node) string {
	text := number(n.At)
	if len(n.Kids) == 0 {
		return text
	}
	var kids []string
	for _, kid := range n.Kids {
		kids = append(kids, offsets(kid))
	}
	return text + "(" + strings.Join(kids, " ") + ")"
}

// P2.1: the offsets, and their exceptions.
func TestNodeOffsets(t *testing.T) {
	for text, want := range map[string]string{
		" a":                       "1",
		"((a))":                    "2",
		"(a) + (!b)":               "4(1 7(8))",
		"a.b[ (c) ]":               "0(6)",
		"(a + b) * c":              "8(3(1 5) 10)",
		"(a) ? b : (c ? d : e)":    "4(1 6 13(11 15 19))",
		"( all i < 2 : old( x ) )": "2(14(19))",
	} {
		if n, diags := parser.ParseExpr(text); len(diags) != 0 || offsets(n) != want {
			t.Errorf("ParseExpr(%q) has the offsets %s, %v; want %s", text, offsets(n), diags, want)
		}
	}
	for text, want := range map[string]string{
		"if (a) { }":               "0(4 7 0)",
		"if a { } else { }":        "0(3 5 14)",
		"while a { }":              "0(6 0 8)",
		"while a variant b { }":    "0(6 16 18)",
		"atomic { x := 1 };":       "0(0 9 14)",
		"atomic { } when (x);":     "0(17)",
		"release x := 1;":          "0(8 13)",
		"x[0] := (1) with y := 2;": "0(0(2) 9 17 22)",
		"ghost local x : 1;":       "0",
		"call p ( (x) );":          "0(10)",
	} {
		before := "\nmodule M owner A { proc p(a : 1) { "
		tree, diags := parser.Parse(before + text + " } }")
		if len(diags) != 0 || offsets(api.Node{Kids: tree.Kids[:1]}) != "0(1(20(27 34("+shifted(want, len(before))+"))))" {
			t.Errorf("Parse(%q) has the offsets %s, %v; want %s", text, offsets(tree), diags, shifted(want, len(before)))
		}
	}
	tree, _ := parser.Parse(" asleep thread t = p(1); module M owner A { ghost shared x : 1; record R { a : 1; } frame x, y; lock l invariant (x); }")
	if got := offsets(tree); got != "0(1(21) 25(44 64(75) 84(90 93) 96(114)))" {
		t.Error(got)
	}
}

// shifted adds a number to all numbers of a text.
func shifted(text string, by int) string {
	var b strings.Builder
	for i := 0; i < len(text); {
		n, from := 0, i
		for i < len(text) && text[i] >= '0' && text[i] <= '9' {
			n = 10*n + int(text[i]-'0')
			i++
		}
		if i > from {
			b.WriteString(number(n + by))
			continue
		}
		b.WriteByte(text[i])
		i++
	}
	return b.String()
}

// P2.1: the first wrong token of an expression, as B1 says.
func TestWrongExpressions(t *testing.T) {
	for text, want := range map[string]api.Diag{
		"":                          {Err: api.ErrEnd, At: 0},
		" // c\n ":                  {Err: api.ErrEnd, At: 7},
		"a +":                       {Err: api.ErrEnd, At: 3},
		"(a // )":                   {Err: api.ErrEnd, At: 7},
		"a == b == c":               {Err: api.ErrSyntax, At: 7},
		"a < b <= c":                {Err: api.ErrSyntax, At: 6},
		"x && a == b != c":          {Err: api.ErrSyntax, At: 12},
		"x + a == b * y < c":        {Err: api.ErrSyntax, At: 15},
		"a == b ==> c == d == e":    {Err: api.ErrSyntax, At: 18},
		"x ==> all i < 2 : y[i]":    {Err: api.ErrSyntax, At: 6},
		"!some i < 2 : x":           {Err: api.ErrSyntax, At: 1},
		"a ? all i < 2 : b : c":     {Err: api.ErrSyntax, At: 4},
		"a ? b : all i < 2 : c":     {Err: api.ErrSyntax, At: 8},
		"all i < x : 1":             {Err: api.ErrSyntax, At: 8},
		"all a.b < 1 : 1":           {Err: api.ErrSyntax, At: 5},
		"all if < 1 : 1":            {Err: api.ErrSyntax, At: 4},
		"some i <= 1 : 1":           {Err: api.ErrSyntax, At: 7},
		"all i < 1":                 {Err: api.ErrEnd, At: 9},
		"old x":                     {Err: api.ErrSyntax, At: 4},
		"old((x))":                  {Err: api.ErrSyntax, At: 4},
		"old(1)":                    {Err: api.ErrSyntax, At: 4},
		"old(x + 1)":                {Err: api.ErrSyntax, At: 6},
		"old(old(x))":               {Err: api.ErrSyntax, At: 4},
		"a.b.c.d":                   {Err: api.ErrSyntax, At: 5},
		"a.1":                       {Err: api.ErrSyntax, At: 2},
		"a.rely":                    {Err: api.ErrSyntax, At: 2},
		"a[1][2]":                   {Err: api.ErrSyntax, At: 4},
		"a[1].b":                    {Err: api.ErrSyntax, At: 4},
		"a[]":                       {Err: api.ErrSyntax, At: 2},
		"a[1":                       {Err: api.ErrEnd, At: 3},
		"a = b":                     {Err: api.ErrSyntax, At: 2},
		"a b":                       {Err: api.ErrSyntax, At: 2},
		"1 x":                       {Err: api.ErrSyntax, At: 2},
		"()":                        {Err: api.ErrSyntax, At: 1},
		"- a":                       {Err: api.ErrSyntax, At: 0},
		"a - - b":                   {Err: api.ErrSyntax, At: 4},
		"a ? b":                     {Err: api.ErrEnd, At: 5},
		"a ? b : c : d":             {Err: api.ErrSyntax, At: 10},
		"a;":                        {Err: api.ErrSyntax, At: 1},
		"a)":                        {Err: api.ErrSyntax, At: 1},
		"a } ; { x":                 {Err: api.ErrSyntax, At: 2},
		"(a > b":                    {Err: api.ErrToken, At: 3},
		") 01":                      {Err: api.ErrToken, At: 2},
		strings.Repeat(" ", 4001):   {Err: api.ErrLimit, At: 0},
		strings.Repeat("a ", 1501):  {Err: api.ErrLimit, At: 3000},
		strings.Repeat("!", 1500):   {Err: api.ErrEnd, At: 1500},
		strings.Repeat("(", 1500):   {Err: api.ErrEnd, At: 1500},
		strings.Repeat("!(a", 500):  {Err: api.ErrSyntax, At: 3},
		strings.Repeat("a[", 750):   {Err: api.ErrEnd, At: 1500},
		strings.Repeat("a ? ", 700): {Err: api.ErrEnd, At: 2800},
	} {
		n, diags := parser.ParseExpr(text)
		if len(diags) != 1 || diags[0] != want || !same(n, api.Node{}) {
			t.Errorf("ParseExpr(%.40q) = %v, %v; want %v", text, n, diags, want)
		}
	}
}

// P2.1: none of the key words is a name, and every other name is one.
func TestKeyWords(t *testing.T) {
	if len(keyWords) != 37 {
		t.Fatal(len(keyWords))
	}
	for _, word := range keyWords {
		for text, want := range map[string]api.Diag{
			"1 + (" + word:         {Err: api.ErrSyntax, At: 5},
			"a." + word:            {Err: api.ErrSyntax, At: 2},
			"old(" + word + ")":    {Err: api.ErrSyntax, At: 4},
			"all " + word + " < 1": {Err: api.ErrSyntax, At: 4},
		} {
			if strings.Contains(text, "(old") || strings.Contains(text, "(all") || strings.Contains(text, "(some") {
				want = api.Diag{Err: api.ErrEnd, At: len(text)}
			}
			if text == "old(all)" || text == "old(some)" || text == "old(old)" {
				want = api.Diag{Err: api.ErrSyntax, At: 4}
			}
			if _, diags := parser.ParseExpr(text); len(diags) != 1 || diags[0] != want {
				t.Errorf("ParseExpr(%q) has %v; want %v", text, diags, want)
			}
		}
		for _, name := range []string{word + "x", "x" + word, strings.ToUpper(word), word + "_", word[:len(word)-1] + "0"} {
			if n, diags := parser.ParseExpr(name); len(diags) != 0 || short(n) != "ref "+name {
				t.Errorf("ParseExpr(%q) = %s, %v", name, short(n), diags)
			}
		}
	}
}

// P2.1: the limit of the depth of an expression. An expression that the lexer accepts has never more than 1500 nodes.
func TestExpressionLimits(t *testing.T) {
	for text, ok := range map[string]bool{
		strings.Repeat("!", 39) + "a":                                      true,
		strings.Repeat("!", 40) + "a":                                      false,
		strings.Repeat("(", 700) + "a" + strings.Repeat(")", 700):          true,
		strings.Repeat("a + ", 39) + "a":                                   true,
		strings.Repeat("a + ", 40) + "a":                                   false,
		strings.Repeat("a ==> ", 39) + "a":                                 true,
		strings.Repeat("a ==> ", 40) + "a":                                 false,
		strings.Repeat("a ? b : ", 39) + "a":                               true,
		strings.Repeat("a ? b : ", 40) + "a":                               false,
		strings.Repeat("a[", 39) + "0" + strings.Repeat("]", 39):           true,
		strings.Repeat("a[", 40) + "0" + strings.Repeat("]", 40):           false,
		strings.Repeat("all i < 1 : ", 39) + "a":                           true,
		strings.Repeat("all i < 1 : ", 40) + "a":                           false,
		strings.Repeat("!", 38) + "old(a)":                                 true,
		strings.Repeat("!", 39) + "old(a)":                                 false,
		strings.Repeat("(a + ", 40) + "a" + strings.Repeat(")", 40):        false,
		strings.Repeat("!", 39) + "(" + strings.Repeat("!", 1) + "a" + ")": false,
		"a + " + strings.Repeat("!", 38) + "a":                             true,
		strings.Repeat("!", 38) + "a + " + strings.Repeat("!", 39) + "a":   false,
	} {
		n, diags := parser.ParseExpr(text)
		if ok && (len(diags) != 0 || !parser.Valid(n)) || !ok && (!sameDiags(diags, []api.Diag{{Err: api.ErrLimit}}) || !same(n, api.Node{})) {
			t.Errorf("ParseExpr(%.60q) = %d, %v", text, n.Kind, diags)
		}
	}
}

// sequences calls a function with all sequences of n words.
func sequences(words []string, n int, each func(text string)) {
	if n == 0 {
		each("")
		return
	}
	sequences(words, n-1, func(text string) {
		for _, word := range words {
			each(text + " " + word)
		}
	})
}

// P2.1 for all expressions of at most four tokens, and of at most six of those that the grammar tells apart first.
func TestShortExpressions(t *testing.T) {
	all := []string{"a", "1", "!", "(", ")", "[", "]", ".", "?", ":", "old", "all", "==>", "==", "<", "+", "*", "|", "if", ";"}
	for n := range 5 {
		sequences(all, n, func(text string) { agreeOnExpr(t, text) })
	}
	sequences([]string{"a", "!", "(", ")", "?", ":", "==", "==>", "-"}, 5, func(text string) { agreeOnExpr(t, text) })
	sequences([]string{"a", "(", ")", "?", ":", "<"}, 6, func(text string) { agreeOnExpr(t, text) })
}

// P2.1 for quantifiers, refs and olds that are completed from their beginnings.
func TestBegunExpressions(t *testing.T) {
	words := []string{"a", "1", "(", ")", "]", ".", ":", "<", "old", "some", "+", "?", "["}
	for _, before := range []string{"all i <", "all i < 2 :", "a [", "a . b", "old (", "old ( a", "a ? b", "! (", "( all i < 1 : a"} {
		for n := range 4 {
			sequences(words, n, func(text string) { agreeOnExpr(t, before+text) })
		}
	}
}

// P2.1, P2.3, P2.5: a tree that is written as text, with any parentheses and gaps, is parsed to the same tree.
func TestRandomExpressions(t *testing.T) {
	c := chance(2)
	for range 6000 {
		tree := c.expr(c.below(7))
		for _, w := range []*writer{
			{gap: plainGap, enclose: never},
			{gap: plainGap, enclose: operandsOnly},
			{gap: c.gap, enclose: func(bool) bool { return c.below(4) == 0 }},
		} {
			text := w.write(&tree)
			if _, err, _ := lexer.Lex(text); err != api.OK {
				continue
			}
			n, diags := parser.ParseExpr(text)
			if len(diags) != 0 || !same(n, tree) || !parser.Valid(n) {
				t.Fatalf("ParseExpr(%q) = %v, %v; want %v", text, n, diags, tree)
			}
			agreeOnExpr(t, text)
		}
	}
}

// gap returns white space and comments; it is empty only beside a token that merges with no other one.
func (c *chance) gap(before, after string) string {
	if before == "" || strings.Contains("(){}[];,.?", before) || strings.Contains("(){}[];,.?", after) {
		return c.of("", "", "", " ", "\n", "// } ; ? > /\n")
	}
	return c.of(" ", " ", "\n", "\t", "\r\n", " // x ;\n", "//\n  ")
}

// P2.1 and P2.9 for expressions with tokens that are removed, inserted, replaced and swapped.
func TestChangedExpressions(t *testing.T) {
	c := chance(3)
	for range 6000 {
		tree := c.expr(1 + c.below(4))
		w := writer{gap: plainGap, enclose: func(bool) bool { return c.below(5) == 0 }}
		text := c.changed(w.write(&tree), 1+c.below(2))
		if tooDeep(text, 41) {
			continue
		}
		agreeOnExpr(t, text)
		if _, diags := parser.ParseExpr(text); len(diags) == 1 {
			_, again := parser.ParseExpr(upToToken(text, diags[0].At))
			if !sameDiags(diags, again) {
				t.Fatalf("ParseExpr(%q) has %v, and %v without the rest", text, diags, again)
			}
		}
	}
}

// tooDeep reports whether a text has so many tokens that it could exceed the depth of a tree.
func tooDeep(text string, depth int) bool {
	tokens, _, _ := lexer.Lex(text)
	return len(tokens) >= 2*depth
}

// changed returns a text in which some tokens are wrong.
func (c *chance) changed(text string, times int) string {
	words := strings.Fields(text)
	for range times {
		i := c.below(len(words) + 1)
		another := c.of(append(append([]string{"a", "1", "0", "{", "}", "{", "}", ";", ";", "(", ")", "[", "]", ":=", ":", ",", ".", "=", "?", "!"}, operators...), keyWords...)...)
		switch {
		case i == len(words):
			words = append(words, another)
		case c.below(4) == 0:
			words = append(words[:i:i], words[i+1:]...)
		case c.below(3) == 0:
			words[i] = another
		case c.below(2) == 0 && i > 0:
			words[i-1], words[i] = words[i], words[i-1]
		default:
			words = append(words[:i:i], append([]string{another}, words[i:]...)...)
		}
	}
	return strings.Join(words, " ")
}

// upToToken returns the part of a text up to the end of the token at an offset.
func upToToken(text string, at int) string {
	tokens, _, _ := lexer.Lex(text)
	for _, x := range tokens {
		if x.At == at {
			return text[:at+len(x.Text)]
		}
	}
	return text
}

// P2.4: of two operators in a row, the one of the higher level groups first.
func TestLevels(t *testing.T) {
	level := map[string]int{"==>": 1, "||": 2, "&&": 3, "==": 4, "!=": 4, "<": 4, "<=": 4, "|": 5, "^": 6, "&": 7, "+": 8, "-": 8, "*": 9}
	for p, left := range level {
		for q, right := range level {
			want := "binary " + q + "(binary " + p + "(ref a, ref b), ref c)"
			if right > left || p == "==>" && q == "==>" {
				want = "binary " + p + "(ref a, binary " + q + "(ref b, ref c))"
			}
			text := "a " + p + " b " + q + " c"
			n, diags := parser.ParseExpr(text)
			if left == 4 && right == 4 {
				if !sameDiags(diags, []api.Diag{{Err: api.ErrSyntax, At: 5 + len(p)}}) {
					t.Errorf("ParseExpr(%q) has %v", text, diags)
				}
			} else if short(n) != want || len(diags) != 0 {
				t.Errorf("ParseExpr(%q) = %s, %v; want %s", text, short(n), diags, want)
			}
		}
		n, _ := parser.ParseExpr("a " + p + " b ? c : d")
		if short(n) != "cond(binary "+p+"(ref a, ref b), ref c, ref d)" {
			t.Error(p, short(n))
		}
		n, _ = parser.ParseExpr("! a " + p + " ! b")
		if short(n) != "binary "+p+"(not(ref a), not(ref b))" {
			t.Error(p, short(n))
		}
	}
}
