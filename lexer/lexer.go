// Package lexer splits a source into tokens.
package lexer

import (
	"strings"

	"relyguard/api"
)

// Longer symbols stand before their prefixes, so that the first one that fits is the longest one.
var symbols = [...]string{
	"==>", "==", "=",
	":=", ":",
	"!=", "!",
	"<=", "<",
	"&&", "&",
	"||", "|",
	"{", "}", "(", ")", "[", "]",
	";", ",", ".", "?",
	"^", "+", "-", "*",
}

const maxDigits = 9

// class is a set of bytes, written as the first and the last byte of each of its ranges.
type class string

const (
	space    class = "\t\n\r\r  "
	lineFeed class = "\n\n"
	letter   class = "AZaz"
	digit    class = "09"
	word     class = "09AZ__az"
)

func (c class) has(b byte) bool {
	for i := 0; i < len(c); i += 2 {
		if c[i] <= b && b <= c[i+1] {
			return true
		}
	}
	return false
}

func (c class) lacks(b byte) bool { return !c.has(b) }

// Lex returns the tokens of a source, or an error and the byte offset where it was found.
func Lex(source string) ([]api.Token, api.Errno, int) {
	if len(source) > api.MaxSource {
		return nil, api.ErrLimit, 0
	}
	var tokens []api.Token
	at := gapEnd(source, 0)
	for at < len(source) {
		if len(tokens) == api.MaxTokens {
			return nil, api.ErrLimit, at
		}
		token, ok := tokenAt(source, at)
		if !ok {
			return nil, api.ErrToken, at
		}
		tokens = append(tokens, token)
		at = gapEnd(source, at+len(token.Text))
	}
	return tokens, api.OK, 0
}

// runEnd returns the end of the longest run of bytes from a position on that have a property.
func runEnd(source string, at int, has func(byte) bool) int {
	for at < len(source) && has(source[at]) {
		at++
	}
	return at
}

func gapEnd(source string, at int) int {
	at = runEnd(source, at, space.has)
	for strings.HasPrefix(source[at:], "//") {
		at = runEnd(source, at, lineFeed.lacks)
		at = runEnd(source, at, space.has)
	}
	return at
}

func tokenAt(source string, at int) (api.Token, bool) {
	kind, text := api.TokenSymbol, ""
	switch first := source[at]; {
	case letter.has(first):
		kind, text = api.TokenName, nameAt(source, at)
	case digit.has(first):
		kind, text = api.TokenNumber, numberAt(source, at)
	default:
		text = symbolAt(source, at)
	}
	if text == "" {
		return api.Token{}, false
	}
	return api.Token{Kind: kind, Text: text, At: at}, true
}

// nameAt returns the name that begins at a letter, or the empty string if it is too long.
func nameAt(source string, at int) string {
	name := source[at:runEnd(source, at, word.has)]
	if len(name) > api.MaxName {
		return ""
	}
	return name
}

// numberAt returns the number that begins at a digit, or the empty string if it is not well-formed.
func numberAt(source string, at int) string {
	end := runEnd(source, at, digit.has)
	number := source[at:end]
	if len(number) > maxDigits || len(number) > 1 && number[0] == '0' {
		return ""
	}
	if end < runEnd(source, end, word.has) {
		return ""
	}
	return number
}

// symbolAt returns the longest symbol that begins at a position, or the empty string if there is none.
func symbolAt(source string, at int) string {
search:
	for _, symbol := range symbols {
		for i := range len(symbol) {
			if at+i == len(source) || source[at+i] != symbol[i] {
				continue search
			}
		}
		return symbol
	}
	return ""
}
