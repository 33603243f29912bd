package parser

import (
	"strconv"

	"relyguard/api"
)

// reader reads the tokens of a text one by one. A token that it does not want is the first wrong one, since it takes only tokens that the grammar allows; the item is left by a panic with the diagnostic.
type reader struct {
	tokens []api.Token     // those that are not yet taken
	end    int             // the length of the text
	keys   map[string]bool // the key words
	braces int             // braces that are open, but do not enclose a list
	diags  []api.Diag
}

func keyWords() map[string]bool {
	return map[string]bool{
		"module": true, "owner": true, "record": true, "shared": true, "ghost": true, "lock": true, "invariant": true,
		"rely": true, "guarantee": true, "frame": true, "proc": true, "locked": true, "local": true, "assert": true,
		"release": true, "with": true, "atomic": true, "when": true, "cas": true, "into": true, "acquire": true,
		"free": true, "fence": true, "spawn": true, "join": true, "await": true, "skip": true, "if": true,
		"else": true, "while": true, "variant": true, "call": true, "thread": true, "asleep": true, "old": true,
		"all": true, "some": true,
	}
}

func (r *reader) ended() bool { return len(r.tokens) == 0 }

// peek returns the next token, or at the end one without a text that stands there.
func (r *reader) peek() api.Token {
	if r.ended() {
		return api.Token{At: r.end}
	}
	return r.tokens[0]
}

func (r *reader) take() api.Token {
	token := r.peek()
	r.tokens = r.tokens[1:]
	return token
}

// wrong leaves the item whose first wrong token is the next one.
func (r *reader) wrong() {
	err := api.ErrSyntax
	if r.ended() {
		err = api.ErrEnd
	}
	panic(api.Diag{Err: err, At: r.peek().At})
}

func (r *reader) accept(text string) bool {
	if r.peek().Text != text {
		return false
	}
	r.take()
	return true
}

func (r *reader) expect(text string) {
	if !r.accept(text) {
		r.wrong()
	}
}

func (r *reader) name() string {
	token := r.peek()
	if token.Kind != api.TokenName || r.keys[token.Text] {
		r.wrong()
	}
	return r.take().Text
}

func (r *reader) path() string {
	path := r.name()
	for names := 1; names < maxPath && r.accept("."); names++ {
		path += "." + r.name()
	}
	return path
}

func (r *reader) number() int {
	if r.peek().Kind != api.TokenNumber {
		r.wrong()
	}
	// The lexer admits no number that is too large for an int.
	n, _ := strconv.Atoi(r.take().Text)
	return n
}

// length reads the number of elements of an array, which is not 0.
func (r *reader) length() int {
	if token := r.peek(); token.Text == "0" {
		panic(api.Diag{Err: api.ErrLimit, At: token.At})
	}
	return r.number()
}

// begin takes the first word of a construct and returns its node.
func (r *reader) begin(kind int) api.Node {
	return api.Node{Kind: kind, At: r.take().At}
}

// tuple reads parts between parentheses, separated by commas.
func (r *reader) tuple(part func() api.Node) []api.Node {
	r.expect("(")
	if r.accept(")") {
		return nil
	}
	kids := r.separated(part)
	r.expect(")")
	return kids
}

func (r *reader) separated(part func() api.Node) []api.Node {
	kids := []api.Node{part()}
	for r.accept(",") {
		kids = append(kids, part())
	}
	return kids
}
