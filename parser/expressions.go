package parser

import "relyguard/api"

// Levels of the binary operators; a higher one groups first.
const (
	levelImplies = iota + 1
	levelOr
	levelAnd
	levelComparison
	levelBitOr
	levelBitXor
	levelBitAnd
	levelSum
	levelProduct
)

// level returns the level of a binary operator, and 0 for any other text.
func level(text string) int {
	switch text {
	case "==>":
		return levelImplies
	case "||":
		return levelOr
	case "&&":
		return levelAnd
	case "==", "!=", "<", "<=":
		return levelComparison
	case "|":
		return levelBitOr
	case "^":
		return levelBitXor
	case "&":
		return levelBitAnd
	case "+", "-":
		return levelSum
	case "*":
		return levelProduct
	}
	return 0
}

// whole reads an expression after which the tokens end.
func (r *reader) whole() api.Node {
	n := r.expr()
	if !r.ended() {
		r.wrong()
	}
	return n
}

func (r *reader) expr() api.Node {
	switch r.peek().Text {
	case "all":
		return r.quantifier(api.NodeAll)
	case "some":
		return r.quantifier(api.NodeSome)
	}
	return r.cond()
}

func (r *reader) quantifier(kind int) api.Node {
	n := r.begin(kind)
	n.Name = r.name()
	r.expect("<")
	n.N = r.number()
	r.expect(":")
	n.Kids = []api.Node{r.expr()}
	return n
}

func (r *reader) cond() api.Node {
	n := r.binary(levelImplies)
	at := r.peek().At
	if !r.accept("?") {
		return n
	}
	yes := r.cond()
	r.expect(":")
	no := r.cond()
	return api.Node{Kind: api.NodeCond, Kids: []api.Node{n, yes, no}, At: at}
}

// binary reads operands and operators of the level least and above, by precedence climbing.
func (r *reader) binary(least int) api.Node {
	n := r.unary()
	most := levelProduct
	for {
		operator := r.peek()
		now := level(operator.Text)
		if now < least || now > most {
			return n
		}
		r.take()
		operand := r.binary(leastOnTheRight(now))
		n = api.Node{Kind: api.NodeBinary, Name: operator.Text, Kids: []api.Node{n, operand}, At: operator.At}
		most = mostAfter(now)
	}
}

// leastOnTheRight returns the lowest level of operators in the right operand of one of a level.
func leastOnTheRight(now int) int {
	if now == levelImplies {
		return now
	}
	return now + 1
}

// mostAfter returns the highest level of operators of which an expression with an operator of a level is the left operand.
func mostAfter(now int) int {
	if now == levelComparison {
		return now - 1
	}
	return now
}

func (r *reader) unary() api.Node {
	token := r.peek()
	switch {
	case token.Text == "!":
		n := r.begin(api.NodeNot)
		n.Kids = []api.Node{r.unary()}
		return n
	case token.Text == "old":
		return r.old()
	case token.Text == "(":
		return r.enclosed()
	case token.Kind == api.TokenNumber:
		return r.numeral()
	}
	return r.ref()
}

func (r *reader) enclosed() api.Node {
	r.expect("(")
	n := r.expr()
	r.expect(")")
	return n
}

func (r *reader) numeral() api.Node {
	n := api.Node{Kind: api.NodeNumber, At: r.peek().At}
	n.N = r.number()
	return n
}

func (r *reader) old() api.Node {
	n := r.begin(api.NodeOld)
	r.expect("(")
	n.Kids = []api.Node{r.ref()}
	r.expect(")")
	return n
}

// variable reads a ref without an index.
func (r *reader) variable() api.Node {
	n := api.Node{Kind: api.NodeRef, At: r.peek().At}
	n.Name = r.path()
	return n
}

func (r *reader) ref() api.Node {
	n := r.variable()
	if r.accept("[") {
		n.Kids = []api.Node{r.expr()}
		r.expect("]")
	}
	return n
}
