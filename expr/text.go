package expr

import (
	"strconv"
	"strings"

	"relyguard/api"
)

// words are the words that the texts of the operators begin with.
var words = [...]string{
	api.OpConst: "",
	api.OpCell:  "c",
	api.OpOld:   "o",
	api.OpNot:   "not",
	api.OpAnd:   "and",
	api.OpOr:    "or",
	api.OpXor:   "xor",
	api.OpAdd:   "add",
	api.OpSub:   "sub",
	api.OpMul:   "mul",
	api.OpEq:    "eq",
	api.OpLt:    "lt",
	api.OpLe:    "le",
	api.OpIte:   "ite",
}

// maxNodeText is the number of bytes that a node needs at most in a text, without its kids, but with a comma: `255:8,`, `c31:8,` or `and(),`.
const maxNodeText = 6

// Text returns the text of an expression.
func Text(e api.Expr) string {
	if !isWellFormed(e) {
		return ""
	}
	var b strings.Builder
	write(&b, &e)
	return b.String()
}

func write(b *strings.Builder, e *api.Expr) {
	b.WriteString(words[e.Op])
	if len(e.Kids) == 0 {
		b.WriteString(strconv.Itoa(e.N) + ":" + strconv.Itoa(e.W))
		return
	}
	before := "("
	for i := range e.Kids {
		b.WriteString(before)
		write(b, &e.Kids[i])
		before = ","
	}
	b.WriteString(")")
}

// Read returns the expression with the given text.
func Read(text string) (api.Expr, api.Errno) {
	if len(text) > maxNodeText*api.MaxExpr {
		return api.Expr{}, api.ErrFormat
	}
	e := read(runes(text))
	if text == "" || Text(e) != text {
		return api.Expr{}, api.ErrFormat
	}
	return e, api.OK
}

// read takes a text for that of an expression, also if it is none; then the result has another text.
func read(next func() rune) api.Expr {
	r := next()
	run := func(first, last rune) string {
		var b strings.Builder
		for first <= r && r <= last {
			b.WriteRune(r)
			r = next()
		}
		return b.String()
	}
	number := func() int {
		n, _ := strconv.Atoi(run('0', '9'))
		return n
	}
	var expression func() api.Expr
	expression = func() api.Expr {
		e := api.Expr{Op: operator(run('a', 'z'))}
		e.N = number()
		if r == ':' {
			r = next()
			e.W = number()
			return e
		}
		for r == '(' || r == ',' {
			r = next()
			e.Kids = append(e.Kids, expression())
		}
		if r == ')' {
			r = next()
		}
		e.W = widthOf(e)
		return e
	}
	return expression()
}

// widthOf returns the width that the operator of a node and its kids require.
func widthOf(e api.Expr) int {
	switch {
	case e.Op == api.OpEq, e.Op == api.OpLt, e.Op == api.OpLe:
		return 1
	case len(e.Kids) > 0:
		return e.Kids[len(e.Kids)-1].W
	}
	return 0
}

// operator returns the operator with a word, or 0 if there is none.
func operator(word string) int {
	for op := api.OpConst; op <= api.OpIte; op++ {
		if words[op] == word {
			return op
		}
	}
	return 0
}

// runes returns a function that returns the runes of a text, one after the other, and then 0.
func runes(text string) func() rune {
	var list []rune
	for _, r := range text {
		list = append(list, r)
	}
	return func() rune {
		if len(list) == 0 {
			return 0
		}
		r := list[0]
		list = list[1:]
		return r
	}
}
