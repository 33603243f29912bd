package expr_test

import (
	"strings"
	"testing"

	"relyguard/api"
	"relyguard/expr"
)

// reads compares Read with the second reading.
func reads(t *testing.T, text string) bool {
	t.Helper()
	want, ok := understood(text)
	got, err := expr.Read(text)
	if !same(got, want) || (err == api.OK) != ok || !ok && err != api.ErrFormat {
		t.Fatalf("%.200q: %s %v, not %s %v", text, plain(got), err, plain(want), ok)
	}
	return ok
}

// F7: the texts of all forms.
func TestText(t *testing.T) {
	x, y := api.Expr{Op: api.OpCell, W: 3, N: 10}, api.Expr{Op: api.OpOld, W: 3, N: 0}
	for _, c := range []struct {
		e    api.Expr
		text string
	}{
		{konst(0, 1), "0:1"}, {konst(255, 8), "255:8"}, {konst(10, 4), "10:4"},
		{x, "c10:3"}, {y, "o0:3"}, {api.Expr{Op: api.OpCell, W: 8, N: 31, Kids: []api.Expr{}}, "c31:8"},
		{op(api.OpNot, 3, x), "not(c10:3)"},
		{op(api.OpAnd, 3, x, y), "and(c10:3,o0:3)"},
		{op(api.OpOr, 3, x, y), "or(c10:3,o0:3)"},
		{op(api.OpXor, 3, x, y), "xor(c10:3,o0:3)"},
		{op(api.OpAdd, 3, x, y), "add(c10:3,o0:3)"},
		{op(api.OpSub, 3, x, y), "sub(c10:3,o0:3)"},
		{op(api.OpMul, 3, x, y), "mul(c10:3,o0:3)"},
		{op(api.OpEq, 1, x, y), "eq(c10:3,o0:3)"},
		{op(api.OpLt, 1, x, y), "lt(c10:3,o0:3)"},
		{op(api.OpLe, 1, x, y), "le(c10:3,o0:3)"},
		{op(api.OpIte, 3, konst(1, 1), x, y), "ite(1:1,c10:3,o0:3)"},
		{op(api.OpIte, 3, op(api.OpLe, 1, x, op(api.OpNot, 3, y)), konst(7, 3), x), "ite(le(c10:3,not(o0:3)),7:3,c10:3)"},
	} {
		if got := expr.Text(c.e); got != c.text {
			t.Errorf("%q, not %q", got, c.text)
		}
		if e, err := expr.Read(c.text); err != api.OK || !same(e, c.e) {
			t.Errorf("%q: %s %v", c.text, plain(e), err)
		}
	}
}

// F7: texts that are none of an expression.
func TestWrongTexts(t *testing.T) {
	for _, text := range []string{
		"", " ", "\x00", "(", ")", ",", ":", "()", "(,)", "0", "c0", "c", "c:1", "o:1", ":1", "0:", "c0:", "not", "not(", "not()", "not(c0:1", "not c0:1", "not:1", "not0:1",
		"2:1", "256:8", "0:0", "0:9", "1:10", "c32:1", "o32:1", "c0:0", "c0:9", "c100:1", "00:1", "01:1", "0:01", "c00:1", "c01:1", "c1:01", "o031:1", "-1:1", "+1:1", "0:+1", "0:-1", "c-1:1", "1e0:1", "0x1:1", "1_0:8",
		" c0:1", "c0:1 ", "c0:1\n", "c0:1\x00", "\x00c0:1", "c 0:1", "c0 :1", "c0: 1", "C0:1", "O0:1", "x0:1", "cc0:1", "co0:1", "c0c:1", "c0:1c", "c0:1:1", "c0:1)", "(c0:1)", "c0:1,", ",c0:1", "c0:1,c1:1", "c(c0:1)", "o(c0:1)", "c0(c0:1)",
		"not(c0:1))", "not((c0:1))", "(not(c0:1))", "not(c0:1)(", "not(c0:1),", "not(c0:1,)", "not(,c0:1)", "not(c0:1,c1:1)", "not(c0:1);", "not(c0:1)not(c0:1)", "not (c0:1)", "not( c0:1)", "not1(c0:1)", "not0(c0:1)", "not(c0:1):1", "Not(c0:1)", "no(c0:1)", "nott(c0:1)", "not[c0:1]",
		"and(c0:1)", "and(c0:1,)", "and(c0:1,,c1:1)", "and(c0:1 c1:1)", "and(c0:1, c1:1)", "and(c0:1;c1:1)", "and(c0:1,c1:1,c2:1)", "and(c0:1,c1:2)", "and(c0:1(c1:1)", "and(c0:1)(c1:1)", "and(c0:1,c1:1", "and c0:1,c1:1)", "and((c0:1,c1:1))", "and(c0:1),not(c1:1)", "nand(c0:1,c1:1)",
		"eq(c0:1,c1:2)", "lt(c0:2,c1:1)", "le(c0:2)", "eq(c0:1,c1:1,c2:1)", "add(c0:2,1:3)", "not(eq(c0:2,c0:2),1:2)", "add(eq(c0:2,c0:2),1:2)",
		"ite(c0:1,c1:1)", "ite(c0:2,c1:1,c2:1)", "ite(c0:1,c1:1,c2:2)", "ite(c0:1,c1:2,c2:1)", "ite(c0:1,c1:1,c2:1,c3:1)", "if(c0:1,c1:1,c2:1)",
		"c٣:1", "c0:١", "ｃ0:1", "not（c0:1)", "and(c0:1，c1:1)", "c0\xff:1", "\xffc0:1", "c0:1\xff", "\xef\xbb\xbfc0:1", "e(c0:1)", "q(c0:1,c1:1)",
		"99999999999999999999:8", "18446744073709551617:1", "c18446744073709551616:1", "c0:18446744073709551617", "0:4294967297", "c4294967296:1",
		written(sized(599, 1)) + ",", "not(" + written(deep(40)) + ")", "not(" + written(sized(600, 1)) + ")", "eq(" + written(sized(300, 1)) + "," + written(sized(299, 1)) + ",c0:1)",
		"eq(" + written(sized(300, 1)) + "," + written(sized(300, 1)) + ")", "eq(" + written(long(40, api.OpOr)) + ",c0:1)",
	} {
		if e, err := expr.Read(text); err != api.ErrFormat || !same(e, api.Expr{}) {
			t.Errorf("%.200q: %s %v", text, plain(e), err)
		}
		reads(t, text)
	}
}

// P1: long texts, also ones with many parentheses.
func TestLongTexts(t *testing.T) {
	for _, part := range []string{"(", ")", ",", "not(", "and(", "ite(c0:1,", "and(c0:1,", "c0:1,", "9", "0", "c", "a", ":", ":1", "\x00", " ", "\xff", "é", "()", "(,", "not(c0:1)"} {
		for _, first := range []string{"", "c0:1", "not(", "1"} {
			if e, err := expr.Read(first + strings.Repeat(part, 60000)); err != api.ErrFormat || !same(e, api.Expr{}) {
				t.Errorf("%q, then %q: %s %v", first, part, plain(e), err)
			}
		}
	}
	for depth := 1; depth < 60; depth++ {
		text := strings.Repeat("not(", depth-1) + "o7:8" + strings.Repeat(")", depth-1)
		if reads(t, text) != (depth <= 40) {
			t.Errorf("depth %d", depth)
		}
	}
}

// P6.5: Read returns an expression for its text, and for no other one with one change.
func TestChangedTexts(t *testing.T) {
	const bytes = "()cotn0123456789:,adslequ \xff"
	right := 0
	expressions(21, 800, func(c *chance, e api.Expr) {
		text := written(e)
		if len(text) > 200 {
			return
		}
		for range 40 {
			i, b := c.below(len(text)), string(bytes[c.below(len(bytes))])
			j := i + c.below(min(9, len(text)-i)+1)
			for _, other := range []string{text[:i] + text[i+1:], text[:i] + b + text[i:], text[:i] + b + text[i+1:], text[:i], text[i:], text + b, text[:i] + text[j:], text[:j] + text[i:], text[i:] + text[:i]} {
				if reads(t, other) {
					right++
				}
			}
		}
	})
	if right < 5000 {
		t.Errorf("only %d other expressions", right)
	}
}

// P6.5: Read inverts Text, and Text tells different expressions apart.
func TestTextsOfExpressions(t *testing.T) {
	seen := map[string]api.Expr{}
	differ := 0
	meet := func(e api.Expr) {
		text := expr.Text(e)
		if text != written(e) {
			t.Fatalf("%s: %s", plain(e), text)
		}
		if !wellFormed(e) {
			return
		}
		if again, err := expr.Read(text); err != api.OK || !same(again, e) {
			t.Fatalf("%s: %s %v", text, plain(again), err)
		}
		if other, ok := seen[text]; ok && !same(e, other) {
			t.Fatalf("%s and %s: %s", plain(e), plain(other), text)
		} else if !ok {
			differ++
		}
		seen[text] = e
	}
	for _, e := range largest() {
		meet(e)
	}
	expressions(22, 8000, func(c *chance, e api.Expr) {
		meet(e)
		for range 5 {
			meet(c.bent(e))
		}
	})
	if differ < 5000 {
		t.Errorf("only %d different expressions", differ)
	}
}
