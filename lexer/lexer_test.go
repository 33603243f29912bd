package lexer_test

import (
	"strconv"
	"strings"
	"testing"

	"relyguard/api"
	"relyguard/lexer"
)

// kindsAndTexts writes tokens without their offsets, one blank before each.
func kindsAndTexts(tokens []api.Token) string {
	var b strings.Builder
	for _, x := range tokens {
		b.WriteString(" " + strconv.Itoa(x.Kind) + x.Text)
	}
	return b.String()
}

// P1.1: the tokens of A1.
func TestTokens(t *testing.T) {
	for source, want := range map[string]string{
		"":                                  "",
		" \t\r\n":                           "",
		"// only a comment":                 "",
		"//":                                "",
		"//\n//\n":                          "",
		"a.b := old(c) + 1; // x":           " 1a 3. 1b 3:= 1old 3( 1c 3) 3+ 21 3;",
		"p ==> q==r<=s":                     " 1p 3==> 1q 3== 1r 3<= 1s",
		"module while variant":              " 1module 1while 1variant",
		"a// comment\rstill\nb":             " 1a 1b",
		"a// comment // again\n// more\n b": " 1a 1b",
		"// \xc3\xa9 \x00 > /\nA_0_":        " 1A_0_",
		"azAZ09_":                           " 1azAZ09_",
		"a0123456789012_5":                  " 1a0123456789012_5",
		"0 10 999999999 100000000":          " 20 210 2999999999 2100000000",
		"0;1.2":                             " 20 3; 21 3. 22",
		"x-1":                               " 1x 3- 21",
		"{}()[];:,.?^+-*":                   " 3{ 3} 3( 3) 3[ 3] 3; 3: 3, 3. 3? 3^ 3+ 3- 3*",
		":= :":                              " 3:= 3:",
		"= == ==> =":                        " 3= 3== 3==> 3=",
		"! != < <= & && | ||":               " 3! 3!= 3< 3<= 3& 3&& 3| 3||",
		"====>===":                          " 3== 3==> 3== 3=",
		"::=:":                              " 3: 3:= 3:",
		"!!==<<==&&&|||":                    " 3! 3!= 3= 3< 3<= 3= 3&& 3& 3|| 3|",
	} {
		tokens, e, at := lexer.Lex(source)
		if got := kindsAndTexts(tokens); got != want || e != api.OK || at != 0 {
			t.Errorf("Lex(%q) = %s, %d, %d; want %s", source, got, e, at, want)
		}
	}
}

// P1.1: the offsets of A1 are those of the first bytes.
func TestOffsets(t *testing.T) {
	tokens, e, _ := lexer.Lex("// a\n\tx1:=\r\n7")
	want := []api.Token{{Kind: api.TokenName, Text: "x1", At: 6}, {Kind: api.TokenSymbol, Text: ":=", At: 8}, {Kind: api.TokenNumber, Text: "7", At: 12}}
	if e != api.OK || !sameTokens(tokens, want) {
		t.Error(tokens, e)
	}
}

// P1.1: the errors of A2, with no tokens beside them.
func TestErrors(t *testing.T) {
	blanks := strings.Repeat(" ", 3999)
	full := strings.Repeat("a ", 1500)
	for _, x := range []struct {
		source string
		err    api.Errno
		at     int
	}{
		{"x := 07", api.ErrToken, 5},
		{"a > b", api.ErrToken, 2},
		{"a => b", api.ErrToken, 3},
		{"00", api.ErrToken, 0},
		{"a 1234567890", api.ErrToken, 2},
		{"0123456789", api.ErrToken, 0},
		{"1a", api.ErrToken, 0},
		{"; 1_", api.ErrToken, 2},
		{"0x1", api.ErrToken, 0},
		{"123456789Z", api.ErrToken, 0},
		{"abcdefghijklmnopq", api.ErrToken, 0},
		{"a_______________b", api.ErrToken, 0},
		{"; a1234567890123456", api.ErrToken, 2},
		{"_a", api.ErrToken, 0},
		{"a /", api.ErrToken, 2},
		{"a / / b", api.ErrToken, 2},
		{"a/*b*/", api.ErrToken, 1},
		{"a \xc3\xa9", api.ErrToken, 2},
		{"\xa0", api.ErrToken, 0},
		{"\v", api.ErrToken, 0},
		{"\f", api.ErrToken, 0},
		{"a\x00", api.ErrToken, 1},
		{"// c\n\"", api.ErrToken, 5},
		{"@ > 00", api.ErrToken, 0},
		{blanks + ">", api.ErrToken, 3999},
		{blanks + " >", api.ErrLimit, 0},
		{"> " + blanks, api.ErrLimit, 0},
		{full + "// c\n; >", api.ErrLimit, 3005},
		{full + ">", api.ErrLimit, 3000},
		{full[2:] + "> ;", api.ErrToken, 2998},
		{"> " + full, api.ErrToken, 0},
	} {
		tokens, e, at := lexer.Lex(x.source)
		if e != x.err || at != x.at || len(tokens) != 0 {
			t.Errorf("Lex(%.40q) = %v, %d, %d; want %d, %d", x.source, tokens, e, at, x.err, x.at)
		}
	}
}

// P1.1: the source may have 4000 bytes.
func TestSourceLimit(t *testing.T) {
	tokens, e, at := lexer.Lex(strings.Repeat(" ", 3999) + "a")
	if e != api.OK || at != 0 || len(tokens) != 1 || tokens[0].At != 3999 {
		t.Error(tokens, e, at)
	}
}

// P1.1 for all sources of at most two bytes, and all of at most four bytes of those that differ for the lexer.
func TestShortSources(t *testing.T) {
	agree(t, "")
	for a := range 256 {
		agree(t, string([]byte{byte(a)}))
		for b := range 256 {
			agree(t, string([]byte{byte(a), byte(b)}))
		}
	}
	const kinds = "aZ_07/ \n=>:!<&|;\xc3"
	var extend func(source string)
	extend = func(source string) {
		agree(t, source)
		for i := range len(kinds) {
			if len(source) < 4 {
				extend(source + kinds[i:i+1])
			}
		}
	}
	extend("")
}

// P1.1 for longer sources, with and without errors.
func TestMixedSources(t *testing.T) {
	for _, source := range mixed(4000, 12, pieces) {
		agree(t, source)
	}
	for _, source := range mixed(2000, 60, sound) {
		agree(t, source)
	}
	for _, source := range mixed(60, 3000, sound) {
		agree(t, source)
	}
}

// P1: no panic, and no result beside an error, for sources of any size and of any bytes.
func TestNeverPanics(t *testing.T) {
	for _, source := range []string{strings.Repeat("a", 1<<20), strings.Repeat("\xff\x00/", 1<<18), strings.Repeat("/", 4000), strings.Repeat("0", 4000)} {
		agree(t, source)
		agree(t, source[:4000])
	}
}

// P1.2: tokens stand at their offsets, and gaps everywhere else.
func TestCoverage(t *testing.T) {
	for _, source := range accepted(mixed(2000, 40, sound)) {
		tokens, e, _ := lexer.Lex(source)
		if e != api.OK {
			t.Fatalf("%q: %d", source, e)
		}
		end := 0
		for _, x := range tokens {
			if x.Text == "" || x.At < end || !strings.HasPrefix(source[x.At:], x.Text) || !isGap(source[end:x.At]) {
				t.Fatalf("%q: %v", source, x)
			}
			end = x.At + len(x.Text)
		}
		if !isGap(source[end:]) {
			t.Fatalf("%q: the end", source)
		}
	}
}

func isGap(s string) bool {
	for s != "" {
		rest := strings.TrimLeft(s, "\x20\x09\x0a\x0d")
		if strings.HasPrefix(rest, "//") {
			line, _, _ := strings.Cut(rest, "\n")
			rest = rest[len(line):]
		}
		if rest == s {
			return false
		}
		s = rest
	}
	return true
}

// P1.3: a prefix has the tokens that begin in it, the last one truncated.
func TestPrefixes(t *testing.T) {
	for _, source := range append(accepted(mixed(600, 30, sound)), "a //x", "//", "a==>b//c\n//") {
		tokens, e, _ := lexer.Lex(source)
		if e != api.OK {
			t.Fatalf("%q: %d", source, e)
		}
		for n := range len(source) + 1 {
			checkPrefix(t, source, tokens, n)
		}
	}
}

func checkPrefix(t *testing.T, source string, tokens []api.Token, n int) {
	t.Helper()
	got, e, at := lexer.Lex(source[:n])
	if splitsComment(source, n) {
		if e != api.ErrToken || at != n-1 || len(got) != 0 {
			t.Fatalf("%q up to %d: %v, %d, %d", source, n, got, e, at)
		}
		return
	}
	var want []api.Token
	for _, x := range tokens {
		if x.At < n {
			x.Text = x.Text[:min(len(x.Text), n-x.At)]
			want = append(want, x)
		}
	}
	if e != api.OK || at != 0 || !sameTokens(got, want) {
		t.Fatalf("%q up to %d: %v, %d, %d; want %v", source, n, got, e, at, want)
	}
}

// splitsComment reports whether a prefix of n bytes ends between the two bytes that start a comment.
func splitsComment(source string, n int) bool {
	line := source[strings.LastIndexByte(source[:n], '\n')+1:]
	start := strings.Index(line, "//")
	return start >= 0 && len(source)-len(line)+start == n-1
}

// P1.4: other gaps that are not empty change nothing but the offsets.
func TestLayout(t *testing.T) {
	gaps := []string{" ", "\t", "\n", "\r\n", "  ", "//\n", "// a > /\n", " // 00\n\t", "\n//x//y\n//\n "}
	for _, source := range accepted(mixed(1000, 25, sound)) {
		tokens, _, _ := lexer.Lex(source)
		var b strings.Builder
		b.WriteString(gaps[len(source)%len(gaps)])
		for i, x := range tokens {
			b.WriteString(x.Text + gaps[(i*7+len(source))%len(gaps)])
		}
		got, e, at := lexer.Lex(b.String())
		if e != api.OK || at != 0 || kindsAndTexts(got) != kindsAndTexts(tokens) {
			t.Fatalf("%q and %q: %v, %d, %d", source, b.String(), got, e, at)
		}
	}
}

// P1.5: a source, a line feed and a second source have the tokens of both, or the error of the second one.
func TestConcatenation(t *testing.T) {
	firsts := append(accepted(mixed(120, 10, sound)), "", "//", "a // b", "=", "0", "//\n")
	seconds := append(mixed(120, 5, pieces), "", "=", ">", "0", "/ /", "=> a")
	for _, first := range firsts {
		tokens, _, _ := lexer.Lex(first)
		for _, second := range seconds {
			checkConcatenation(t, first, tokens, second)
		}
	}
}

func checkConcatenation(t *testing.T, first string, tokens []api.Token, second string) {
	t.Helper()
	shift := len(first) + 1
	got, e, at := lexer.Lex(first + "\n" + second)
	more, wantErr, wantAt := lexer.Lex(second)
	var want []api.Token
	if wantErr != api.OK {
		wantAt += shift
	} else {
		want = append(want, tokens...)
		for _, x := range more {
			x.At += shift
			want = append(want, x)
		}
	}
	if e != wantErr || at != wantAt || !sameTokens(got, want) {
		t.Fatalf("%q and %q: %v, %d, %d; want %v, %d, %d", first, second, got, e, at, want, wantErr, wantAt)
	}
}

// P1.6: an ErrToken is the first error, and stays one where the source begins with it.
func TestFirstError(t *testing.T) {
	count := 0
	for _, source := range mixed(4000, 12, pieces) {
		_, e, at := lexer.Lex(source)
		if e != api.ErrToken {
			continue
		}
		count++
		if tokens, e, n := lexer.Lex(source[:at]); e != api.OK || n != 0 {
			t.Fatalf("%q up to %d: %v, %d, %d", source, at, tokens, e, n)
		}
		if tokens, e, n := lexer.Lex(source[at:]); e != api.ErrToken || n != 0 || len(tokens) != 0 {
			t.Fatalf("%q from %d on: %v, %d, %d", source, at, tokens, e, n)
		}
	}
	if count < 1000 {
		t.Error("only", count, "sources have an error")
	}
}

// P1.7: no token could have been longer.
func TestLongestTokens(t *testing.T) {
	for _, source := range accepted(mixed(2000, 40, sound)) {
		tokens, _, _ := lexer.Lex(source)
		for _, x := range tokens {
			end := x.At + len(x.Text)
			if end == len(source) {
				continue
			}
			longer := x.Text + source[end:end+1]
			if got, e, _ := reference(longer); e == api.OK && len(got) == 1 && got[0].Text == longer {
				t.Fatalf("%q: %q instead of %q", source, x.Text, longer)
			}
		}
	}
}

// P1.8: n names of one letter are n tokens, up to the limit.
func TestLimits(t *testing.T) {
	for _, n := range []int{0, 1, 2, 3, 100, 1499, 1500, 1501, 1502, 2000, 2001, 5000} {
		tokens, e, at := lexer.Lex(strings.TrimSuffix(strings.Repeat("n ", n), " "))
		if n <= 1500 {
			if e != api.OK || at != 0 || len(tokens) != n {
				t.Error(n, len(tokens), e, at)
			}
			continue
		}
		want := 3000
		if n > 2000 {
			want = 0
		}
		if e != api.ErrLimit || at != want || len(tokens) != 0 {
			t.Error(n, len(tokens), e, at)
		}
	}
	tokens, e, _ := lexer.Lex(strings.Repeat("n ", 1500) + "// the end\n")
	if e != api.OK || len(tokens) != 1500 {
		t.Error(len(tokens), e)
	}
}

// Rules: a result depends only on the argument, and shares no memory with another one.
func TestSameResultAgain(t *testing.T) {
	const source = "a := b[1]; // c"
	first, _, _ := lexer.Lex(source)
	kept := append([]api.Token(nil), first...)
	first[0].Text = "changed"
	second, e, at := lexer.Lex(source)
	if e != api.OK || at != 0 || !sameTokens(second, kept) {
		t.Error(second, e, at)
	}
}
