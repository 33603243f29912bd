package lexer_test

import (
	"regexp"
	"strings"
	"testing"

	"relyguard/api"
	"relyguard/lexer"
)

// The chapter's words as regular expressions over the bytes of a source, so that nothing of the lexer vouches for itself.
var (
	gapWord    = regexp.MustCompile(`^(?:[\x20\x09\x0a\x0d]|//[^\n]*)*`)
	nameWord   = regexp.MustCompile(`^[A-Za-z][A-Za-z0-9_]*`)
	numberWord = regexp.MustCompile(`^[0-9]+`)
	symbolWord = regexp.MustCompile(`^(?:==>|==|=|:=|:|!=|!|<=|<|&&|&|\|\||\||[{}()\[\];,.?^+*-])`)
	goodName   = regexp.MustCompile(`^.{1,16}$`)
	goodNumber = regexp.MustCompile(`^(?:0|[1-9][0-9]{0,8})$`)
	afterDigit = regexp.MustCompile(`^[A-Za-z_]`)
)

// spread makes every byte a rune of its own, since regexp reads runes.
func spread(source string) string {
	var b strings.Builder
	for i := range len(source) {
		if source[i] < 0x80 {
			b.WriteByte(source[i])
		} else {
			b.WriteByte(0x7f) // outside of a comment no byte from 127 on has a meaning
		}
	}
	return b.String()
}

// reference is a second reading of A1 and A2.
func reference(source string) ([]api.Token, api.Errno, int) {
	if len(source) > 4000 {
		return nil, api.ErrLimit, 0
	}
	text := spread(source)
	var tokens []api.Token
	at := len(gapWord.FindString(text))
	for at < len(text) {
		if len(tokens) >= 1500 {
			return nil, api.ErrLimit, at
		}
		token := referenceToken(text[at:])
		if token.Kind == 0 {
			return nil, api.ErrToken, at
		}
		token.At = at
		tokens = append(tokens, token)
		at += len(token.Text)
		at += len(gapWord.FindString(text[at:]))
	}
	return tokens, api.OK, 0
}

func referenceToken(rest string) api.Token {
	if s := nameWord.FindString(rest); s != "" {
		if !goodName.MatchString(s) {
			return api.Token{}
		}
		return api.Token{Kind: 1, Text: s}
	}
	if s := numberWord.FindString(rest); s != "" {
		if !goodNumber.MatchString(s) || afterDigit.MatchString(rest[len(s):]) {
			return api.Token{}
		}
		return api.Token{Kind: 2, Text: s}
	}
	if s := symbolWord.FindString(rest); s != "" {
		return api.Token{Kind: 3, Text: s}
	}
	return api.Token{}
}

// agree reports the first difference between the lexer and the reference.
func agree(t *testing.T, source string) {
	t.Helper()
	got, e, at := lexer.Lex(source)
	want, wantErr, wantAt := reference(source)
	if e != wantErr || at != wantAt || !sameTokens(got, want) {
		t.Fatalf("Lex(%q) = %v, %d, %d; want %v, %d, %d", source, got, e, at, want, wantErr, wantAt)
	}
}

func sameTokens(a, b []api.Token) bool {
	if len(a) != len(b) {
		return false
	}
	for i := range a {
		if a[i] != b[i] {
			return false
		}
	}
	return true
}

// pieces are what the sources of the tests are made of: every word, its bounds, and what is wrong.
var pieces = []string{
	" ", "\t", "\n", "\r", "//", "// a := 1", "// \xc3\xa9 > /\n", "/", "/ /", "///\n",
	"a", "Z", "az", "_", "a_", "a__9", "while", "x1", "abcdefghijklmnop", "abcdefghijklmnopq",
	"0", "7", "10", "00", "07", "123456789", "1234567890", "9a", "9_", "0x",
	"{", "}", "(", ")", "[", "]", ";", ":", ",", ".", "?", ":=", "=", "==", "==>", "!", "!=",
	"<", "<=", "&", "&&", "|", "||", "^", "+", "-", "*",
	">", "=>", "\"", "\x00", "\v", "\f", "\x7f", "\xc3\xa9", "\xa0", "@", "`", "~", "%", "#", "$", "'", "\\",
}

// mixed returns sources of pieces, chosen by a linear congruence, so that every run tests the same.
func mixed(count, longest int, from []string) []string {
	var list []string
	seed := uint32(1)
	next := func(n int) int {
		seed = seed*1664525 + 1013904223
		return int(seed>>8) % n
	}
	for range count {
		var b strings.Builder
		for range 1 + next(longest) {
			b.WriteString(from[next(len(from))])
		}
		list = append(list, b.String())
	}
	return list
}

// accepted returns those of the sources that the reference lexes without an error.
func accepted(list []string) []string {
	var good []string
	for _, source := range list {
		if _, e, _ := reference(source); e == api.OK {
			good = append(good, source)
		}
	}
	return good
}

// sound are pieces of which most sources are lexed without an error.
var sound = []string{
	" ", "\t", "\n", "\r\n", "// a > b\n", "//\n", " ", "a ", "x1", "while ", "a_b ", "0 ", "7 ", "10 ", "123456789 ",
	"{", "}", "(", ")", "[", "]", ";", ":", ",", ".", "?", ":=", "=", "==", "==>", "!", "!=",
	"<", "<=", "&", "&&", "|", "||", "^", "+", "-", "*", "abcdefghijklmnop ", "=", "=",
}
