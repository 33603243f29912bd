package parser_test

import (
	"strconv"
	"strings"

	"relyguard/api"
)

// split is a second reading of the tree of an expression that the grammar allows: it looks for the operator that groups last, and splits the tokens there.
func split(tokens []api.Token) api.Node {
	first := tokens[0]
	switch {
	case first.Text == "all" || first.Text == "some":
		n := api.Node{Kind: api.NodeAll, Name: tokens[1].Text, N: value(tokens[3]), Kids: []api.Node{split(tokens[5:])}, At: first.At}
		if first.Text == "some" {
			n.Kind = api.NodeSome
		}
		return n
	case find(tokens, "?", false) >= 0:
		i := find(tokens, "?", false)
		j := i + 1 + colon(tokens[i+1:])
		return api.Node{Kind: api.NodeCond, Kids: []api.Node{split(tokens[:i]), split(tokens[i+1 : j]), split(tokens[j+1:])}, At: tokens[i].At}
	}
	for _, level := range []string{"==>", "||", "&&", "== != < <=", "|", "^", "&", "+ -", "*"} {
		if i := find(tokens, level, level != "==>"); i >= 0 {
			return api.Node{Kind: api.NodeBinary, Name: tokens[i].Text, Kids: []api.Node{split(tokens[:i]), split(tokens[i+1:])}, At: tokens[i].At}
		}
	}
	return splitUnary(tokens)
}

func splitUnary(tokens []api.Token) api.Node {
	switch first := tokens[0]; {
	case first.Text == "!":
		return api.Node{Kind: api.NodeNot, Kids: []api.Node{splitUnary(tokens[1:])}, At: first.At}
	case first.Text == "(":
		return split(tokens[1 : len(tokens)-1])
	case first.Text == "old":
		return api.Node{Kind: api.NodeOld, Kids: []api.Node{splitUnary(tokens[2 : len(tokens)-1])}, At: first.At}
	case first.Kind == api.TokenNumber:
		return api.Node{Kind: api.NodeNumber, N: value(first), At: first.At}
	}
	n := api.Node{Kind: api.NodeRef, At: tokens[0].At}
	for i, x := range tokens {
		if x.Text == "[" {
			n.Kids = []api.Node{split(tokens[i+1 : len(tokens)-1])}
			break
		}
		n.Name += x.Text
	}
	return n
}

// find returns the index of the first or last one of some symbols outside of brackets, or -1.
func find(tokens []api.Token, symbols string, last bool) int {
	found, depth := -1, 0
	for i, x := range tokens {
		depth += bracket(x)
		if depth == 0 && x.Kind == api.TokenSymbol && strings.Contains(" "+symbols+" ", " "+x.Text+" ") && (last || found < 0) {
			found = i
		}
	}
	return found
}

// colon returns the index of the colon that belongs to the question mark before the tokens.
func colon(tokens []api.Token) int {
	depth, open := 0, 1
	for i, x := range tokens {
		depth += bracket(x)
		if depth == 0 && x.Text == "?" {
			open++
		}
		if depth == 0 && x.Text == ":" {
			open--
		}
		if open == 0 {
			return i
		}
	}
	return -1
}

func bracket(x api.Token) int {
	switch x.Text {
	case "(", "[":
		return 1
	case ")", "]":
		return -1
	}
	return 0
}

func value(x api.Token) int {
	n, err := strconv.Atoi(x.Text)
	if err != nil {
		panic(x.Text)
	}
	return n
}
