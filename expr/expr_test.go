package expr_test

import (
	"slices"
	"strings"
	"testing"

	"relyguard/api"
	"relyguard/expr"
)

func texts(list ...string) []api.Expr {
	var all []api.Expr
	for _, text := range list {
		all = append(all, p(text))
	}
	return all
}

// P6.1: the examples of the chapter.
func TestExamples(t *testing.T) {
	sum := op(api.OpAdd, 3, api.Expr{Op: api.OpCell, W: 3}, api.Expr{Op: api.OpCell, W: 3, N: 1})
	if got := expr.Eval(sum, nil, []int{7, 2}); got != 1 {
		t.Errorf("7 + 2 is %d", got)
	}
	same := op(api.OpEq, 1, api.Expr{Op: api.OpCell, W: 2}, api.Expr{Op: api.OpCell, W: 2, N: 1})
	inserted := op(api.OpAdd, 2, api.Expr{Op: api.OpCell, W: 2}, konst(1, 2))
	if got := expr.Text(expr.Subst(same, []api.Assign{{Cell: 0, To: inserted}})); got != "eq(add(c0:2,1:2),c1:2)" {
		t.Error(got)
	}
	e, err := expr.Read("and(le(0:2,c1:2),eq(c0:1,0:1))")
	if got := expr.Text(expr.Simplify(e)); err != api.OK || got != "not(c0:1)" {
		t.Error(err, got)
	}
	if e, err := expr.Read("add(c0:2,1:3)"); err != api.ErrFormat || expr.Text(e) != "" {
		t.Error(e, err)
	}
}

// F1: Valid over the cells.
func TestValid(t *testing.T) {
	list := []api.Cell{{W: 1}, {W: 2}, {W: 9}, {W: 0}, {W: 8}}
	for _, c := range []struct {
		text         string
		single, pair bool
	}{
		{"1:1", true, true},
		{"c0:1", true, true},
		{"c0:2", false, false},
		{"c1:2", true, true},
		{"c4:8", true, true},
		{"c5:8", false, false},
		{"c31:1", false, false},
		{"c2:8", false, false},
		{"c3:1", false, false},
		{"o1:2", false, true},
		{"o1:1", false, false},
		{"o5:1", false, false},
		{"add(c1:2,o1:2)", false, true},
		{"add(c1:2,not(c1:2))", true, true},
		{"lt(c1:2,sub(1:2,o0:2))", false, false},
		{"ite(o0:1,c0:1,c0:1)", false, true},
		{"ite(c0:1,c0:1,c1:1)", false, false},
	} {
		if got := expr.Valid(p(c.text), list, false); got != c.single {
			t.Errorf("%s: %v", c.text, got)
		}
		if got := expr.Valid(p(c.text), list, true); got != c.pair {
			t.Errorf("%s for pairs: %v", c.text, got)
		}
	}
	if expr.Valid(p("c0:1"), nil, true) || !expr.Valid(p("not(0:1)"), nil, false) {
		t.Error("without cells")
	}
	if !expr.Valid(p("c31:8"), cells(), false) {
		t.Error("the last cell")
	}
}

// F1: Size of all kinds of expressions, also of wrong ones.
func TestSize(t *testing.T) {
	for _, c := range []struct {
		e           api.Expr
		limit, want int
	}{
		{p("c0:1"), 9, 1},
		{p("ite(c0:1,not(1:4),c0:4)"), 9, 5},
		{p("ite(c0:1,not(1:4),c0:4)"), 5, 5},
		{p("ite(c0:1,not(1:4),c0:4)"), 4, 4},
		{p("ite(c0:1,not(1:4),c0:4)"), 1, 1},
		{p("ite(c0:1,not(1:4),c0:4)"), 0, 0},
		{p("ite(c0:1,not(1:4),c0:4)"), -1, 0},
		{p("ite(c0:1,not(1:4),c0:4)"), -1 << 63, 0},
		{p("ite(c0:1,not(1:4),c0:4)"), 1<<63 - 1, 5},
		{api.Expr{}, 9, 1},
		{api.Expr{Op: 99, W: -1, N: -1, Kids: make([]api.Expr, 7)}, 9, 8},
		{api.Expr{Kids: make([]api.Expr, 1000)}, 1 << 40, 1001},
		{api.Expr{Kids: make([]api.Expr, 1000)}, 1000, 1000},
		{sized(600, 1), 1 << 40, 600},
		{sized(601, 1), 1 << 40, 601},
		{sized(54321, 1), 1 << 40, 54321},
		{deep(1 << 16), 1 << 40, 1 << 16},
		{deep(1 << 16), 1<<16 - 1, 1<<16 - 1},
		{doubled(16), 1 << 40, 1<<17 - 1},
		{doubled(16), 1 << 15, 1 << 15},
		{doubled(16), 600, 600},
	} {
		if got := expr.Size(c.e, c.limit); got != c.want {
			t.Errorf("%s up to %d: %d, not %d", plain(c.e), c.limit, got, c.want)
		}
	}
}

// F2: values of small expressions.
func TestEval(t *testing.T) {
	old, now := []int{1, 6, -1, 260}, []int{0, 3, 5, -3, 1 << 40}
	for text, want := range map[string]int{
		"9:4": 9, "255:8": 255, "0:1": 0,
		"c0:1": 0, "o0:1": 1, "c1:3": 3, "o1:3": 6, "c1:1": 1, "o1:1": 0, "c2:2": 1, "o1:2": 2,
		"o2:1": 1, "o2:5": 31, "o2:8": 255, "c3:1": 1, "c3:2": 1, "c3:3": 5, "c3:8": 253, "o3:8": 4, "o3:2": 0,
		"c4:8": 0, "c5:8": 0, "o4:8": 0, "c31:8": 0, "o31:1": 0,
		"not(c0:1)": 1, "not(o0:1)": 0, "not(c1:3)": 4, "not(c3:8)": 2, "not(0:8)": 255,
		"and(12:4,10:4)": 8, "or(12:4,10:4)": 14, "xor(12:4,10:4)": 6,
		"add(12:4,10:4)": 6, "sub(12:4,10:4)": 2, "sub(10:4,12:4)": 14, "mul(12:4,10:4)": 8, "add(255:8,255:8)": 254, "mul(255:8,255:8)": 1, "sub(0:8,255:8)": 1,
		"eq(2:3,2:3)": 1, "eq(2:3,3:3)": 0, "eq(4:3,0:3)": 0, "lt(2:3,3:3)": 1, "lt(3:3,2:3)": 0, "lt(2:3,2:3)": 0, "le(2:3,3:3)": 1, "le(3:3,2:3)": 0, "le(2:3,2:3)": 1,
		"lt(c2:8,o2:8)": 1, "lt(255:8,0:8)": 0, "le(255:8,0:8)": 0, "lt(127:8,128:8)": 1,
		"ite(1:1,5:3,6:3)": 5, "ite(0:1,5:3,6:3)": 6, "ite(c0:1,c1:3,o1:3)": 6, "ite(o0:1,c1:3,o1:3)": 3,
		"add(mul(c1:3,o1:3),sub(c2:3,not(c1:3)))": 3,
		"sub(c1:8,o1:8)":                  253,
		"le(sub(o1:3,c1:3),add(7:3,4:3))": 1,
	} {
		if got := expr.Eval(p(text), old, now); got != want {
			t.Errorf("%s: %d, not %d", text, got, want)
		}
	}
}

// F2: all values of all operators with two operands.
func TestOperators(t *testing.T) {
	for w := 1; w <= 8; w++ {
		step := max(1, 1<<w/32)
		for operator := api.OpAnd; operator <= api.OpLe; operator++ {
			e := op(operator, w, api.Expr{Op: api.OpCell, W: w, N: 1}, api.Expr{Op: api.OpOld, W: w})
			if operator >= api.OpEq {
				e.W = 1
			}
			for a := 0; a < 1<<w; a += 1 + a%step {
				for b := 0; b < 1<<w; b += 1 + b%step {
					old, now := []int{b}, []int{0, a}
					if got, want := expr.Eval(e, old, now), worth(e, old, now); got != want {
						t.Fatalf("%s with %d and %d: %d, not %d", plain(e), a, b, got, want)
					}
				}
			}
		}
	}
}

// F3: Support and Before of small expressions.
func TestSupport(t *testing.T) {
	for _, c := range []struct {
		text     string
		old, now []int
		before   string
	}{
		{"1:1", nil, nil, "1:1"},
		{"c0:1", nil, []int{0}, "o0:1"},
		{"o31:1", []int{31}, nil, "o31:1"},
		{"add(c7:2,add(c3:2,add(c31:2,add(c3:2,add(c0:2,o3:2)))))", []int{3}, []int{0, 3, 7, 31}, "add(o7:2,add(o3:2,add(o31:2,add(o3:2,add(o0:2,o3:2)))))"},
		{"ite(o2:1,o1:3,sub(o2:3,c9:3))", []int{1, 2}, []int{9}, "ite(o2:1,o1:3,sub(o2:3,o9:3))"},
	} {
		if old, now := expr.Support(p(c.text)); !slices.Equal(old, c.old) || !slices.Equal(now, c.now) {
			t.Errorf("%s: %v %v", c.text, old, now)
		}
		check(t, "before "+c.text, expr.Before(p(c.text)), p(c.before))
	}
}

// F4: Subst of small expressions.
func TestSubst(t *testing.T) {
	set := []api.Assign{
		{Cell: 1, To: p("add(c1:2,c0:2)")}, {Cell: 0, To: p("c1:2")}, {Cell: 1, To: p("3:2")}, {Cell: 5, To: p("o1:2")},
		{Cell: 7}, {Cell: 8, To: sized(700, 2)}, {Cell: 9, To: p("0:3")}, {Cell: 9, To: p("0:2")},
		{Cell: -1, To: p("1:2")}, {Cell: 32, To: p("1:2")}, {Cell: 33}, {Cell: -1 << 63}, {Cell: 1<<63 - 1},
		{Cell: 31, To: p("c31:2")}, {Cell: 10, To: konst(4, 2)}, {Cell: 11, To: doubled(14)}, {Cell: 11, To: p("1:1")},
	}
	for text, want := range map[string]string{
		"c1:2":                   "add(c1:2,c0:2)",
		"c0:2":                   "c1:2",
		"c5:2":                   "o1:2",
		"c2:2":                   "c2:2",
		"o1:2":                   "o1:2",
		"1:2":                    "1:2",
		"c31:2":                  "c31:2",
		"eq(c1:2,sub(c0:2,1:2))": "eq(add(c1:2,c0:2),sub(c1:2,1:2))",
		"mul(c1:2,c1:2)":         "mul(add(c1:2,c0:2),add(c1:2,c0:2))",
		"ite(c2:1,c5:2,o5:2)":    "ite(c2:1,o1:2,o5:2)",
		"c0:1":                   "",
		"c0:3":                   "",
		"eq(c0:3,c1:3)":          "",
		"eq(c0:3,1:3)":           "",
		"c7:2":                   "",
		"c8:2":                   "",
		"c9:2":                   "",
		"c9:3":                   "0:3",
		"c10:2":                  "",
		"c11:1":                  "",
		"o7:2":                   "o7:2",
		"o11:1":                  "o11:1",
	} {
		if got := expr.Text(expr.Subst(p(text), set)); got != want {
			t.Errorf("%s: %s, not %s", text, got, want)
		}
	}
	check(t, "nothing", expr.Subst(p("add(c1:2,o0:2)"), nil), p("add(c1:2,o0:2)"))
}

// F5: And, Or and Implies of small expressions.
func TestConnectives(t *testing.T) {
	for list, want := range map[string][2]string{
		"":                           {"1:1", "0:1"},
		"1:1":                        {"1:1", "1:1"},
		"0:1":                        {"0:1", "0:1"},
		"c0:1":                       {"c0:1", "c0:1"},
		"o0:1 c1:1":                  {"and(o0:1,c1:1)", "or(o0:1,c1:1)"},
		"c0:1 c0:1":                  {"and(c0:1,c0:1)", "or(c0:1,c0:1)"},
		"c0:1 c1:1 c2:1":             {"and(and(c0:1,c1:1),c2:1)", "or(or(c0:1,c1:1),c2:1)"},
		"c0:1 c1:1 c2:1 c3:1":        {"and(and(and(c0:1,c1:1),c2:1),c3:1)", "or(or(or(c0:1,c1:1),c2:1),c3:1)"},
		"1:1 c1:1":                   {"c1:1", "1:1"},
		"c0:1 1:1":                   {"c0:1", "1:1"},
		"c0:1 1:1 c1:1 1:1":          {"and(c0:1,c1:1)", "1:1"},
		"0:1 c1:1":                   {"0:1", "c1:1"},
		"c0:1 0:1":                   {"0:1", "c0:1"},
		"0:1 c0:1 0:1 c1:1":          {"0:1", "or(c0:1,c1:1)"},
		"1:1 1:1":                    {"1:1", "1:1"},
		"0:1 0:1":                    {"0:1", "0:1"},
		"1:1 0:1":                    {"0:1", "1:1"},
		"c0:1 not(1:1)":              {"and(c0:1,not(1:1))", "or(c0:1,not(1:1))"},
		"c0:1 and(c1:1,c2:1)":        {"and(c0:1,and(c1:1,c2:1))", "or(c0:1,and(c1:1,c2:1))"},
		"c0:1 c1:2":                  {"", ""},
		"c1:2":                       {"", ""},
		"1:2":                        {"", ""},
		"0:1 1:2":                    {"", ""},
		"1:1 0:2":                    {"", ""},
		"eq(c0:8,c1:8) lt(o0:3,1:3)": {"and(eq(c0:8,c1:8),lt(o0:3,1:3))", "or(eq(c0:8,c1:8),lt(o0:3,1:3))"},
	} {
		all := texts(strings.Fields(list)...)
		if got := [2]string{expr.Text(expr.And(all)), expr.Text(expr.Or(all))}; got != want {
			t.Errorf("%q: %q, not %q", list, got, want)
		}
	}
	for _, c := range [][3]string{
		{"c0:1", "c1:1", "or(not(c0:1),c1:1)"},
		{"c0:1", "c0:1", "or(not(c0:1),c0:1)"},
		{"not(c0:1)", "c1:1", "or(c0:1,c1:1)"},
		{"not(not(c0:1))", "c1:1", "or(not(c0:1),c1:1)"},
		{"0:1", "c1:1", "1:1"}, {"0:1", "0:1", "1:1"}, {"0:1", "1:1", "1:1"},
		{"1:1", "c1:1", "c1:1"}, {"1:1", "0:1", "0:1"}, {"1:1", "1:1", "1:1"},
		{"c0:1", "1:1", "1:1"}, {"c0:1", "0:1", "not(c0:1)"}, {"not(c0:1)", "0:1", "c0:1"}, {"not(not(c0:1))", "0:1", "not(c0:1)"},
		{"c0:1", "not(c1:1)", "or(not(c0:1),not(c1:1))"},
		{"c0:2", "c1:1", ""}, {"c0:1", "c1:2", ""}, {"0:2", "c1:1", ""}, {"0:1", "c1:2", ""}, {"1:1", "1:2", ""}, {"1:2", "1:1", ""},
	} {
		if got := expr.Text(expr.Implies(p(c[0]), p(c[1]))); got != c[2] {
			t.Errorf("%s implies %s: %s, not %s", c[0], c[1], got, c[2])
		}
	}
}

// F6: each of the rules, and forms to which none applies.
func TestRules(t *testing.T) {
	for text, want := range map[string]string{
		"add(3:2,2:2)": "1:2", "not(1:3)": "6:3", "lt(1:3,2:3)": "1:1", "ite(0:1,1:3,2:3)": "2:3", "eq(0:1,0:1)": "1:1", "sub(0:8,1:8)": "255:8", "c0:1": "c0:1", "o3:8": "o3:8", "9:8": "9:8",
		"not(not(c0:3))": "c0:3", "not(c0:3)": "not(c0:3)", "not(not(not(c0:3)))": "not(c0:3)",
		"and(c0:3,0:3)": "0:3", "and(0:3,c0:3)": "0:3", "and(7:3,c0:3)": "c0:3", "and(c0:3,7:3)": "c0:3", "and(c0:3,c0:3)": "c0:3", "and(c0:3,1:3)": "and(c0:3,1:3)", "and(c0:3,not(c0:3))": "and(c0:3,not(c0:3))",
		"or(c0:3,0:3)": "c0:3", "or(0:3,c0:3)": "c0:3", "or(7:3,c0:3)": "7:3", "or(c0:3,7:3)": "7:3", "or(c0:3,c0:3)": "c0:3", "or(c0:3,1:3)": "or(c0:3,1:3)", "or(c0:3,c1:3)": "or(c0:3,c1:3)",
		"xor(c0:3,0:3)": "c0:3", "xor(0:3,c0:3)": "c0:3", "xor(c0:3,c0:3)": "0:3", "xor(c0:3,7:3)": "xor(c0:3,7:3)", "xor(c0:3,o0:3)": "xor(c0:3,o0:3)",
		"add(c0:3,0:3)": "c0:3", "add(0:3,c0:3)": "c0:3", "add(c0:3,c0:3)": "add(c0:3,c0:3)", "add(c0:1,c0:1)": "add(c0:1,c0:1)", "add(7:3,c0:3)": "add(7:3,c0:3)",
		"sub(c0:3,0:3)": "c0:3", "sub(0:3,c0:3)": "sub(0:3,c0:3)", "sub(c0:3,c0:3)": "0:3", "sub(c0:3,c1:3)": "sub(c0:3,c1:3)",
		"mul(c0:3,0:3)": "0:3", "mul(0:3,c0:3)": "0:3", "mul(1:3,c0:3)": "c0:3", "mul(c0:3,1:3)": "c0:3", "mul(c0:3,c0:3)": "mul(c0:3,c0:3)", "mul(7:3,c0:3)": "mul(7:3,c0:3)", "mul(c0:1,c0:1)": "mul(c0:1,c0:1)",
		"eq(c0:3,c0:3)": "1:1", "eq(c0:3,1:3)": "eq(c0:3,1:3)", "eq(0:3,c0:3)": "eq(0:3,c0:3)", "eq(7:3,c0:3)": "eq(7:3,c0:3)",
		"eq(1:1,c0:1)": "c0:1", "eq(c0:1,1:1)": "c0:1", "eq(0:1,c0:1)": "not(c0:1)", "eq(c0:1,0:1)": "not(c0:1)", "eq(0:1,not(c0:1))": "c0:1", "eq(not(c0:1),0:1)": "c0:1", "eq(c0:1,c1:1)": "eq(c0:1,c1:1)",
		"lt(c0:3,c0:3)": "0:1", "lt(c0:3,0:3)": "0:1", "lt(0:3,c0:3)": "lt(0:3,c0:3)", "lt(7:3,c0:3)": "lt(7:3,c0:3)", "lt(c0:3,7:3)": "lt(c0:3,7:3)", "lt(c0:1,1:1)": "lt(c0:1,1:1)",
		"le(c0:3,c0:3)": "1:1", "le(0:3,c0:3)": "1:1", "le(c0:3,7:3)": "1:1", "le(c0:3,0:3)": "le(c0:3,0:3)", "le(7:3,c0:3)": "le(7:3,c0:3)", "le(c0:3,1:3)": "le(c0:3,1:3)", "le(c0:8,255:8)": "1:1", "le(c0:1,1:1)": "1:1",
		"ite(1:1,c0:3,c1:3)": "c0:3", "ite(0:1,c0:3,c1:3)": "c1:3", "ite(c2:1,c0:3,c0:3)": "c0:3", "ite(c2:1,1:1,0:1)": "c2:1", "ite(c2:1,0:1,1:1)": "not(c2:1)", "ite(not(c2:1),0:1,1:1)": "c2:1",
		"ite(c2:1,1:2,0:2)": "ite(c2:1,1:2,0:2)", "ite(c2:1,0:3,1:3)": "ite(c2:1,0:3,1:3)", "ite(c2:1,1:1,c0:1)": "ite(c2:1,1:1,c0:1)", "ite(c2:1,0:1,0:1)": "0:1", "ite(c2:1,c0:1,0:1)": "ite(c2:1,c0:1,0:1)", "ite(c2:1,c0:1,1:1)": "ite(c2:1,c0:1,1:1)",
		"and(le(0:2,c1:2),eq(c0:1,0:1))":                "not(c0:1)",
		"add(mul(c0:2,sub(c1:2,c1:2)),or(c2:2,0:2))":    "c2:2",
		"and(xor(c0:2,0:2),or(c0:2,c0:2))":              "c0:2",
		"not(eq(0:1,not(not(c0:1))))":                   "c0:1",
		"ite(lt(c0:4,0:4),c1:1,not(ite(c0:1,0:1,1:1)))": "c0:1",
		"sub(add(c0:2,0:2),add(0:2,c0:2))":              "0:2",
		"eq(and(c0:2,3:2),xor(c0:2,0:2))":               "1:1",
		"xor(add(c0:2,c1:2),add(c1:2,c0:2))":            "xor(add(c0:2,c1:2),add(c1:2,c0:2))",
		"and(and(c0:1,c1:1),c0:1)":                      "and(and(c0:1,c1:1),c0:1)",
	} {
		if got := expr.Text(expr.Simplify(p(text))); got != want {
			t.Errorf("%s: %s, not %s", text, got, want)
		}
	}
}
