package parser_test

import (
	"strings"
	"testing"

	"relyguard/api"
	"relyguard/lexer"
	"relyguard/parser"
)

// grammar is that of the chapter, with <x> for a list in braces with the items x, and length for the number in the brackets of a shared variable.
const grammar = `
path        = name [ "." name [ "." name ] ]
ref         = path [ "[" expr "]" ]
expr        = ( "all" | "some" ) name "<" number ":" expr | cond
cond        = implies [ "?" cond ":" cond ]
implies     = or [ "==>" implies ]
or          = and { "||" and }
and         = comparison { "&&" comparison }
comparison  = bitor [ ( "==" | "!=" | "<" | "<=" ) bitor ]
bitor       = bitxor { "|" bitxor }
bitxor      = bitand { "^" bitand }
bitand      = sum { "&" sum }
sum         = product { ( "+" | "-" ) product }
product     = unary { "*" unary }
unary       = "!" unary | number | "old" "(" ref ")" | "(" expr ")" | ref
unit        = module | thread
module      = "module" name "owner" name <declaration>
thread      = [ "asleep" ] "thread" name "=" path "(" [ number { "," number } ] ")" ";"
declaration = "record" name <field>
            | [ "ghost" ] "shared" name [ "[" length "]" ] ":" ( number | name ) [ "=" number ] ";"
            | "lock" name "invariant" expr ";"
            | "rely" expr ";" | "guarantee" expr ";" | "frame" path { "," path } ";"
            | "proc" name "(" [ parameter { "," parameter } ] ")" [ "locked" name ] block
field       = name ":" number ";"
parameter   = name ":" number
block       = <statement>
assign      = ref ":=" expr
with        = "with" assign { "," assign }
statement   = "assert" expr ";" | "await" expr ";" | "fence" ";" | "skip" ";"
            | [ "release" ] assign [ with ] ";"
            | "atomic" "{" [ assign { "," assign } ] "}" [ "when" expr ] ";"
            | "cas" ref "," expr "," expr "into" ref [ with ] ";"
            | "acquire" path ";" | "free" path ";" | "spawn" name ";" | "join" name ";"
            | "if" expr block [ "else" block ]
            | "while" expr [ "variant" expr ] block
            | "call" path "(" [ expr { "," expr } ] ")" ";"
            | [ "ghost" ] "local" name ":" number ";"`

const words = "module owner record shared ghost lock invariant rely guarantee frame proc locked local assert release with atomic when cas into acquire free fence spawn join await skip if else while variant call thread asleep old all some"

var keyWords = strings.Fields(words)

func isKeyWord(text string) bool { return strings.Contains(" "+words+" ", " "+text+" ") }

// part is a part of a rule of the grammar: a token (t), a rule (r), a list in braces (l), a sequence (s), alternatives (a), or parts that may be missing (o) or occur any number of times (m).
type part struct {
	sort  byte
	text  string
	parts []*part
}

var rules = readGrammar()

func readGrammar() map[string]*part {
	list := map[string]*part{}
	for _, line := range strings.Split(strings.ReplaceAll(grammar, "\n            |", " |"), "\n") {
		if fields := strings.Fields(line); len(fields) > 0 {
			list[fields[0]], _ = readAlternatives(fields[2:])
		}
	}
	return list
}

func readAlternatives(fields []string) (*part, []string) {
	all := &part{sort: 'a'}
	for {
		one := &part{sort: 's'}
		for len(fields) > 0 && !strings.Contains("|)]}", fields[0]) {
			var p *part
			p, fields = readPart(fields)
			one.parts = append(one.parts, p)
		}
		all.parts = append(all.parts, one)
		if len(fields) == 0 || fields[0] != "|" {
			return all, fields
		}
		fields = fields[1:]
	}
}

func readPart(fields []string) (*part, []string) {
	switch word := fields[0]; {
	case word == "(" || word == "[" || word == "{":
		inner, rest := readAlternatives(fields[1:])
		return &part{sort: map[string]byte{"(": 'a', "[": 'o', "{": 'm'}[word], parts: []*part{inner}}, rest[1:]
	case word[0] == '"':
		return &part{sort: 't', text: strings.Trim(word, `"`)}, fields[1:]
	case word[0] == '<':
		return &part{sort: 'l', text: strings.Trim(word, "<>")}, fields[1:]
	case word == "name" || word == "number" || word == "length":
		return &part{sort: 't', text: "a " + word}, fields[1:]
	default:
		return &part{sort: 'r', text: word}, fields[1:]
	}
}

// stack is what may still follow the tokens that are read: a part, and then the rest.
type stack struct {
	top  *part
	rest *stack
}

// tops replaces the parts on top of a stack by what they begin with, until tokens, lists or the end (nil) are on top.
func tops(s *stack) []*stack {
	if s == nil {
		return []*stack{nil}
	}
	var list []*stack
	switch p := s.top; p.sort {
	case 't', 'l':
		return []*stack{s}
	case 'r':
		return tops(&stack{rules[p.text], s.rest})
	case 's':
		rest := s.rest
		for i := len(p.parts) - 1; i >= 0; i-- {
			rest = &stack{p.parts[i], rest}
		}
		return tops(rest)
	case 'a':
		for _, x := range p.parts {
			list = append(list, tops(&stack{x, s.rest})...)
		}
	case 'o':
		list = append(tops(s.rest), tops(&stack{p.parts[0], s.rest})...)
	case 'm':
		list = append(tops(s.rest), tops(&stack{p.parts[0], s})...)
	}
	return list
}

func fitsToken(what string, x api.Token) bool {
	switch what {
	case "a name":
		return x.Kind == api.TokenName && !isKeyWord(x.Text)
	case "a number":
		return x.Kind == api.TokenNumber
	case "a length":
		return x.Kind == api.TokenNumber && x.Text != "0"
	}
	return x.Text == what
}

// reading is a second reading of B1 and B2: it tries everything that the grammar allows.
type reading struct {
	tokens  []api.Token
	next    int
	end     int
	diags   []api.Diag
	dropped [][2]int // the wrong items, from their first byte to the token after them
}

func (r *reading) offset() int {
	if r.next < len(r.tokens) {
		return r.tokens[r.next].At
	}
	return r.end
}

func (r *reading) text(i int) string {
	if i < len(r.tokens) {
		return r.tokens[i].Text
	}
	return ""
}

// try reads what a rule allows. It stops before the first token that cannot follow; depth is that of the braces around this token.
func (r *reading) try(rule string, whole bool) (err api.Errno, depth int) {
	states := tops(&stack{rules[rule], nil})
	for {
		var next []*stack
		finished, wantsLength := false, false
		for _, s := range states {
			switch {
			case s == nil:
				finished = true
			case s.top.sort == 'l' && r.text(r.next) == "{":
				r.next++
				if !r.list(s.top.text, "}") {
					return api.ErrEnd, 0
				}
				next = append(next, tops(s.rest)...)
			case r.next < len(r.tokens) && s.top.sort == 't' && fitsToken(s.top.text, r.tokens[r.next]):
				depth += strings.Count(s.top.text, "{") - strings.Count(s.top.text, "}")
				r.next++
				next = append(next, tops(s.rest)...)
			case s.top.text == "a length" && r.text(r.next) == "0":
				wantsLength = true
			}
			if next != nil {
				break
			}
		}
		switch {
		case next != nil:
			states = next
		case wantsLength:
			return api.ErrLimit, depth
		case finished && (!whole || r.next == len(r.tokens)):
			return api.OK, 0
		case r.next == len(r.tokens):
			return api.ErrEnd, depth
		default:
			return api.ErrSyntax, depth
		}
	}
}

// list reads the items of a list, up to the token that ends it, or to the end of the tokens.
func (r *reading) list(rule, last string) bool {
	for r.next < len(r.tokens) {
		if r.text(r.next) == last {
			r.next++
			return true
		}
		from := r.offset()
		err, depth := r.try(rule, false)
		if err == api.OK {
			continue
		}
		if n := len(r.diags); n == 0 || r.diags[n-1].At != r.offset() {
			r.diags = append(r.diags, api.Diag{Err: err, At: r.offset()})
		}
		r.next = r.after(r.next, depth, last == "")
		r.dropped = append(r.dropped, [2]int{from, r.offset()})
	}
	return last == ""
}

// after returns where the list is continued after a wrong token.
func (r *reading) after(i, depth int, outermost bool) int {
	for ; i < len(r.tokens); i++ {
		was := depth
		depth += strings.Count(r.text(i), "{") - strings.Count(r.text(i), "}")
		switch {
		case depth < 0 && outermost:
			return i + 1
		case depth < 0:
			return i
		case was == 1 && depth == 0 && r.text(i+1) == ";":
			return i + 2
		case was == 1 && depth == 0, depth == 0 && r.text(i) == ";":
			return i + 1
		}
	}
	return i
}

// kept returns the source with blanks in place of the wrong items.
func (r *reading) kept(source string) string {
	text := []byte(source)
	for _, x := range r.dropped {
		for i := x[0]; i < x[1]; i++ {
			text[i] = ' '
		}
	}
	return string(text)
}

func readingOf(source string) (*reading, []api.Diag) {
	tokens, err, at := lexer.Lex(source)
	if err != api.OK {
		return nil, []api.Diag{{Err: err, At: at}}
	}
	return &reading{tokens: tokens, end: len(source)}, nil
}

// sourceReading returns the diagnostics of a source, and a source without diagnostics that has the same tree.
func sourceReading(source string) ([]api.Diag, string) {
	r, diags := readingOf(source)
	if diags != nil {
		return diags, ""
	}
	r.list("unit", "")
	return r.diags[:min(len(r.diags), 20)], r.kept(source)
}

// exprReading returns the diagnostics of an expression.
func exprReading(text string) []api.Diag {
	r, diags := readingOf(text)
	if diags != nil {
		return diags
	}
	if err, _ := r.try("expr", true); err != api.OK {
		return []api.Diag{{Err: err, At: r.offset()}}
	}
	return nil
}

// agreeOnSource compares the parser with the second reading, for sources that keep within the limits of trees.
func agreeOnSource(t *testing.T, source string) {
	t.Helper()
	tree, diags := parser.Parse(source)
	want, kept := sourceReading(source)
	if !sameDiags(diags, want) {
		t.Fatalf("Parse(%q) has the diagnostics %v; want %v", source, diags, want)
	}
	if len(want) == 0 {
		return
	}
	clean, none := parser.Parse(kept)
	if len(none) != 0 || !same(tree, clean) {
		t.Fatalf("Parse(%q) = %v; want %v, as for %q (%v)", source, tree, clean, kept, none)
	}
}

// agreeOnExpr compares the parser with the second readings, for expressions that keep within the limits of trees.
func agreeOnExpr(t *testing.T, text string) {
	t.Helper()
	tree, diags := parser.ParseExpr(text)
	want := exprReading(text)
	if !sameDiags(diags, want) {
		t.Fatalf("ParseExpr(%q) has the diagnostics %v; want %v", text, diags, want)
	}
	if len(want) > 0 {
		if !same(tree, api.Node{}) {
			t.Fatalf("ParseExpr(%q) = %v with an error", text, tree)
		}
		return
	}
	tokens, _, _ := lexer.Lex(text)
	if want := split(tokens); !same(tree, want) {
		t.Fatalf("ParseExpr(%q) = %v; want %v", text, tree, want)
	}
}

func sameDiags(a, b []api.Diag) bool {
	if len(a) != len(b) {
		return false
	}
	for i := range a {
		if a[i] != b[i] {
			return false
		}
	}
	return true
}

func same(a, b api.Node) bool {
	if a.Kind != b.Kind || a.Name != b.Name || a.Other != b.Other || a.N != b.N || a.Len != b.Len ||
		a.Init != b.Init || a.Ghost != b.Ghost || a.At != b.At || len(a.Kids) != len(b.Kids) {
		return false
	}
	for i := range a.Kids {
		if !same(a.Kids[i], b.Kids[i]) {
			return false
		}
	}
	return true
}
