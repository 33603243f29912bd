package printer_test

import (
	"reflect"
	"strconv"
	"strings"
	"testing"

	"relyguard/api"
	"relyguard/parser"
	"relyguard/printer"
)

func num(n int) api.Node { return api.Node{Kind: api.NodeNumber, N: n} }

func ref(path string, index ...api.Node) api.Node {
	return api.Node{Kind: api.NodeRef, Name: path, Kids: index}
}

func old(n api.Node) api.Node { return api.Node{Kind: api.NodeOld, Kids: []api.Node{n}} }

func not(n api.Node) api.Node { return api.Node{Kind: api.NodeNot, Kids: []api.Node{n}} }

func binary(operator string, a, b api.Node) api.Node {
	return api.Node{Kind: api.NodeBinary, Name: operator, Kids: []api.Node{a, b}}
}

func cond(a, b, c api.Node) api.Node {
	return api.Node{Kind: api.NodeCond, Kids: []api.Node{a, b, c}}
}

func all(name string, n int, body api.Node) api.Node {
	return api.Node{Kind: api.NodeAll, Name: name, N: n, Kids: []api.Node{body}}
}

func some(name string, n int, body api.Node) api.Node {
	return api.Node{Kind: api.NodeSome, Name: name, N: n, Kids: []api.Node{body}}
}

// shape is a kind of expressions with operands, as a function of these.
type shape struct {
	operands int
	of       func(kids []api.Node) api.Node
}

func shapes() []shape {
	list := []shape{
		{1, func(k []api.Node) api.Node { return ref("M.s", k[0]) }},
		{1, func(k []api.Node) api.Node { return old(ref("s", k[0])) }},
		{1, func(k []api.Node) api.Node { return not(k[0]) }},
		{1, func(k []api.Node) api.Node { return all("i", 2, k[0]) }},
		{1, func(k []api.Node) api.Node { return some("j", 0, k[0]) }},
		{3, func(k []api.Node) api.Node { return cond(k[0], k[1], k[2]) }},
	}
	for _, o := range strings.Fields("==> || && == != < <= | ^ & + - *") {
		list = append(list, shape{2, func(k []api.Node) api.Node { return binary(o, k[0], k[1]) }})
	}
	return list
}

func leaves() []api.Node {
	return []api.Node{num(0), num(999999999), ref("x"), ref("a.b.c"), ref("all_"), ref("abcdefghijklmnop"), old(ref("old1")), old(ref("M.some2"))}
}

// combined returns all expressions of the shapes whose operands are in a pool.
func combined(pool []api.Node) []api.Node {
	var list []api.Node
	for _, s := range shapes() {
		total := 1
		for range s.operands {
			total *= len(pool)
		}
		for i := range total {
			var kids []api.Node
			for range s.operands {
				kids = append(kids, pool[i%len(pool)])
				i /= len(pool)
			}
			list = append(list, s.of(kids))
		}
	}
	return list
}

// nested returns all combinations of an expression and the kinds of its operands, and random expressions that are larger.
func nested() []api.Node {
	pool := append([]api.Node{num(1)}, combined([]api.Node{ref("x")})...)
	list := append(leaves(), combined(pool)...)
	c := chance(1)
	for i := range 3000 {
		list = append(list, c.expr(2+i%5))
	}
	return list
}

// chance is a linear congruence, so that every run tests the same.
type chance uint32

func (c *chance) below(n int) int {
	*c = *c*1664525 + 1013904223
	return int(*c>>8) % n
}

// expr returns a random expression with at most size levels of operands.
func (c *chance) expr(size int) api.Node {
	if size == 0 || c.below(8) == 0 {
		return leaves()[c.below(len(leaves()))]
	}
	s := shapes()[c.below(len(shapes()))]
	var kids []api.Node
	for range s.operands {
		kids = append(kids, c.expr(size-1))
	}
	return s.of(kids)
}

// speller writes expressions with all operands in parentheses, except for those that are bare; operands are numbered in the order in which they begin.
type speller struct {
	bare map[int]bool
	next int
}

func (s *speller) operand(n api.Node) string {
	i := s.next
	s.next++
	if s.bare[i] {
		return s.expr(n)
	}
	return "(" + s.expr(n) + ")"
}

func (s *speller) expr(n api.Node) string {
	switch n.Kind {
	case api.NodeNumber:
		return strconv.Itoa(n.N)
	case api.NodeRef:
		if len(n.Kids) > 0 {
			return n.Name + "[" + s.operand(n.Kids[0]) + "]"
		}
		return n.Name
	case api.NodeOld:
		return "old(" + s.expr(n.Kids[0]) + ")"
	case api.NodeNot:
		return "!" + s.operand(n.Kids[0])
	case api.NodeBinary:
		return s.operand(n.Kids[0]) + " " + n.Name + " " + s.operand(n.Kids[1])
	case api.NodeCond:
		return s.operand(n.Kids[0]) + " ? " + s.operand(n.Kids[1]) + " : " + s.operand(n.Kids[2])
	}
	word := map[int]string{api.NodeAll: "all ", api.NodeSome: "some "}[n.Kind]
	return word + n.Name + " < " + strconv.Itoa(n.N) + " : " + s.operand(n.Kids[0])
}

// fewest returns the text of an expression with as few parentheses as the parser admits, which it finds by leaving out each pair in turn.
func fewest(n api.Node) string {
	s := speller{bare: map[int]bool{}}
	text := s.expr(n)
	for i := range s.next {
		s.bare[i], s.next = true, 0
		if shorter := s.expr(n); reads(shorter, n) {
			text = shorter
		} else {
			delete(s.bare, i)
		}
	}
	return text
}

// reads reports whether a text is parsed to an expression.
func reads(text string, n api.Node) bool {
	tree, diags := parser.ParseExpr(text)
	return len(diags) == 0 && reflect.DeepEqual(parser.Strip(tree), parser.Strip(n))
}

// P3.1: C1 for every kind of expression and the examples of the chapter.
func TestExpr(t *testing.T) {
	a, b, c := ref("a"), ref("b"), ref("c")
	for _, x := range []struct {
		n    api.Node
		want string
	}{
		{num(0), "0"}, {num(999999999), "999999999"}, {a, "a"}, {ref("M.r.f"), "M.r.f"},
		{ref("M.s", binary("+", a, num(1))), "M.s[a + 1]"}, {ref("s", all("i", 2, a)), "s[all i < 2 : a]"},
		{old(a), "old(a)"}, {old(ref("s", cond(a, b, c))), "old(s[a ? b : c])"},
		{not(a), "!a"}, {not(not(a)), "!!a"}, {not(binary("*", a, b)), "!(a * b)"}, {not(old(a)), "!old(a)"}, {not(cond(a, b, c)), "!(a ? b : c)"},
		{binary("*", binary("+", a, num(1)), not(b)), "(a + 1) * !b"},
		{binary("-", a, binary("-", b, c)), "a - (b - c)"}, {binary("-", binary("-", a, b), c), "a - b - c"}, {binary("-", a, binary("+", b, c)), "a - (b + c)"},
		{binary("==>", a, binary("==>", b, c)), "a ==> b ==> c"}, {binary("==>", binary("==>", a, b), c), "(a ==> b) ==> c"},
		{binary("&&", all("i", 2, ref("x")), ref("y")), "(all i < 2 : x) && y"}, {binary("&&", ref("y"), all("i", 2, ref("x"))), "y && (all i < 2 : x)"},
		{binary("==", binary("<", a, b), c), "(a < b) == c"}, {binary("==", a, binary("!=", b, c)), "a == (b != c)"},
		{binary("<=", binary("|", a, b), binary("|", b, c)), "a | b <= b | c"},
		{binary("||", binary("&&", a, b), binary("||", b, c)), "a && b || (b || c)"}, {binary("&", binary("^", a, b), binary("+", a, b)), "(a ^ b) & a + b"},
		{cond(a, b, c), "a ? b : c"}, {cond(cond(a, b, c), a, b), "(a ? b : c) ? a : b"}, {cond(a, cond(a, b, c), cond(c, b, a)), "a ? a ? b : c : c ? b : a"},
		{cond(binary("==>", a, b), all("i", 3, a), some("j", 4, b)), "a ==> b ? (all i < 3 : a) : (some j < 4 : b)"},
		{cond(all("i", 1, a), b, c), "(all i < 1 : a) ? b : c"}, {binary("==>", a, cond(a, b, c)), "a ==> (a ? b : c)"},
		{all("i", 0, some("j", 8, cond(a, b, c))), "all i < 0 : some j < 8 : a ? b : c"},
	} {
		if text, err := printer.Expr(x.n); text != x.want || err != api.OK {
			t.Errorf("%q, %v instead of %q", text, err, x.want)
		}
		if text := fewest(x.n); text != x.want {
			t.Errorf("the test's own text is %q instead of %q", text, x.want)
		}
	}
}

// P3.1, P3.2 and P3.4: the text is the one from which no parentheses can be left out, for all operands of all kinds.
func TestFewestParentheses(t *testing.T) {
	for _, n := range nested() {
		want := fewest(n)
		text, err := printer.Expr(n)
		if tooLong(want) {
			want = ""
		}
		if text != want || (err == api.OK) != (want != "") {
			t.Fatalf("%q, %v instead of %q", text, err, want)
		}
		if want != "" && !reads(text, n) {
			t.Fatalf("%q is parsed to another tree", text)
		}
	}
}

// P3.4, as it stands: no pair of parentheses can be removed from a text.
func TestNoPairToRemove(t *testing.T) {
	pairs := 0
	for _, n := range nested() {
		text, _ := printer.Expr(n)
		for open := range text {
			if text[open] != '(' || strings.HasSuffix(text[:open], "old") {
				continue
			}
			end := closing(text, open)
			if rest := text[:open] + text[open+1:end] + text[end+1:]; reads(rest, n) {
				t.Fatalf("%q is parsed like %q", rest, text)
			}
			pairs++
		}
	}
	if pairs < 10000 {
		t.Error("too few pairs:", pairs)
	}
}

// closing returns the position of the parenthesis that closes another one.
func closing(text string, open int) int {
	depth := 0
	for i := open; ; i++ {
		switch text[i] {
		case '(':
			depth++
		case ')':
			depth--
		}
		if depth == 0 {
			return i
		}
	}
}

// P3.3: different trees have different texts.
func TestDifferentExpressions(t *testing.T) {
	seen := map[string]api.Node{}
	for _, n := range nested() {
		text, err := printer.Expr(n)
		if err != api.OK {
			continue
		}
		if other, ok := seen[text]; ok && !reflect.DeepEqual(n, other) {
			t.Fatalf("%q is the text of %v and %v", text, n, other)
		}
		seen[text] = n
	}
}

// P3.3: what is parsed from any text has one text, and it is that of its own tree.
func TestCanonicalExpressions(t *testing.T) {
	for text, want := range map[string]string{
		"((a))":                   "a",
		" a\t+b // the rest":      "a + b",
		"(a*b)+(c)":               "a * b + c",
		"s[(a+(b))]":              "s[a + b]",
		"old ( s [ (1) ] )":       "old(s[1])",
		"!(!a)":                   "!!a",
		"M . r\n. f":              "M.r.f",
		"(a ? b : c)":             "a ? b : c",
		"a?(b?c:d):(e?f:g)":       "a ? b ? c : d : e ? f : g",
		"all i<2:(some j<3:(x))":  "all i < 2 : some j < 3 : x",
		"(a==>(b==>c))":           "a ==> b ==> c",
		"((a==>b))==>c":           "(a ==> b) ==> c",
		"(a+b)-(c-d)":             "a + b - (c - d)",
		"(a&b)^(c|d)":             "a & b ^ (c | d)",
		"(x && y) || (z)":         "x && y || z",
		"(a < b) == (c < (d))":    "(a < b) == (c < d)",
		"!(old(x)) && !(x == y)":  "!old(x) && !(x == y)",
		"(a) ? (all i < 2:b) : c": "a ? (all i < 2 : b) : c",
	} {
		for _, x := range []string{text, want} {
			tree, diags := parser.ParseExpr(x)
			if got, err := printer.Expr(tree); got != want || err != api.OK || len(diags) > 0 {
				t.Errorf("%q: %q, %v, %v", x, got, err, diags)
			}
		}
	}
}

// P3.7: a number in the place of an operand changes nothing but this place.
func TestSubstitution(t *testing.T) {
	replaced := 0
	for i, n := range nested() {
		if i%7 != 0 {
			continue
		}
		before, err := printer.Expr(n)
		if err != api.OK {
			continue
		}
		for _, x := range substitutions(n) {
			after, err := printer.Expr(x.tree)
			if err != api.OK || !changesOnly(before, after, x.operand) {
				t.Fatalf("%q becomes %q, %v", before, after, err)
			}
			replaced++
		}
	}
	if replaced < 5000 {
		t.Error("too few operands:", replaced)
	}
}

// marker is a number that occurs in no tree of the tests.
const marker = 123454321

// substitution is a tree in which an operand was replaced by the marker.
type substitution struct {
	tree    api.Node
	operand api.Node
}

func substitutions(n api.Node) []substitution {
	var list []substitution
	for i, kid := range n.Kids {
		with := func(x api.Node) api.Node {
			tree := n
			tree.Kids = append([]api.Node(nil), n.Kids...)
			tree.Kids[i] = x
			return tree
		}
		if isExpr(n) && n.Kind != api.NodeOld {
			list = append(list, substitution{with(num(marker)), kid})
		}
		for _, x := range substitutions(kid) {
			list = append(list, substitution{with(x.tree), x.operand})
		}
	}
	return list
}

func isExpr(n api.Node) bool { return n.Kind >= api.NodeNumber && n.Kind <= api.NodeSome }

// changesOnly reports whether two texts differ only in an operand, with or without parentheses, and the marker in its place.
func changesOnly(before, after string, operand api.Node) bool {
	text, err := printer.Expr(operand)
	if err != api.OK {
		return false
	}
	left, right, found := strings.Cut(after, strconv.Itoa(marker))
	return found && (before == left+text+right || before == left+"("+text+")"+right)
}
