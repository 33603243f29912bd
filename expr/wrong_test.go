package expr_test

import (
	"testing"

	"relyguard/api"
	"relyguard/expr"
)

// rejects checks that nothing is made of an expression that is not well-formed.
func rejects(t *testing.T, e api.Expr) {
	t.Helper()
	zero, x, y := api.Expr{}, p("c0:1"), p("not(c1:1)")
	if expr.Valid(e, cells(), true) || expr.Valid(e, make([]api.Cell, 99), true) {
		t.Fatalf("%s is valid", plain(e))
	}
	if got := expr.Eval(e, []int{1, 1}, []int{1, 1}); got != 0 {
		t.Fatalf("%s has the value %d", plain(e), got)
	}
	if old, now := expr.Support(e); len(old)+len(now) != 0 {
		t.Fatalf("%s has the cells %v %v", plain(e), old, now)
	}
	if text := expr.Text(e); text != "" {
		t.Fatalf("%s has the text %s", plain(e), text)
	}
	for what, got := range map[string]api.Expr{
		"Before":            expr.Before(e),
		"Simplify":          expr.Simplify(e),
		"Subst":             expr.Subst(e, nil),
		"Subst of cells":    expr.Subst(e, []api.Assign{{Cell: 0, To: x}, {Cell: 1, To: p("1:2")}}),
		"And":               expr.And([]api.Expr{e}),
		"And, last":         expr.And([]api.Expr{x, y, e}),
		"And, after 0":      expr.And([]api.Expr{p("0:1"), e}),
		"And, before 0":     expr.And([]api.Expr{e, p("0:1")}),
		"And, with 1":       expr.And([]api.Expr{p("1:1"), e, p("1:1")}),
		"Or":                expr.Or([]api.Expr{e}),
		"Or, last":          expr.Or([]api.Expr{x, y, e}),
		"Or, after 1":       expr.Or([]api.Expr{p("1:1"), e}),
		"Or, before 1":      expr.Or([]api.Expr{e, p("1:1")}),
		"Or, with 0":        expr.Or([]api.Expr{p("0:1"), e, p("0:1")}),
		"Implies":           expr.Implies(e, x),
		"Implies 1":         expr.Implies(e, p("1:1")),
		"Implies 0":         expr.Implies(e, p("0:1")),
		"Implies, second":   expr.Implies(x, e),
		"Implies, after 0":  expr.Implies(p("0:1"), e),
		"Implies, after 1":  expr.Implies(p("1:1"), e),
		"Implies, both":     expr.Implies(e, e),
		"Subst with it":     expr.Subst(api.Expr{Op: api.OpCell, W: min(8, max(1, e.W)), N: 2}, []api.Assign{{Cell: 2, To: e}}),
		"Subst with it, in": expr.Subst(p("and(c0:1,lt(o1:8,c2:8))"), []api.Assign{{Cell: 0, To: x}, {Cell: 2, To: e}}),
	} {
		if !same(got, zero) {
			t.Fatalf("%s of %s: %s", what, plain(e), plain(got))
		}
	}
	if got := expr.Subst(y, []api.Assign{{Cell: 0, To: e}, {Cell: 1, To: x}, {Cell: 1, To: e}}); !same(got, p("not(c0:1)")) {
		t.Fatalf("Subst with %s, not inserted: %s", plain(e), plain(got))
	}
}

// P6.1, P1: expressions that are not well-formed, also ones that are far too large or too deep.
func TestWrongExpressions(t *testing.T) {
	for _, e := range wrong() {
		rejects(t, e)
	}
}

// P6.1: wrong parts at any place make an expression wrong.
func TestWrongParts(t *testing.T) {
	x, y := p("c0:1"), p("c1:2")
	for _, e := range wrong() {
		for _, around := range []api.Expr{
			op(api.OpNot, e.W, e), op(api.OpEq, 1, e, e), op(api.OpAnd, 1, x, e), op(api.OpAnd, 1, e, x), op(api.OpAdd, 2, e, y), op(api.OpLt, 1, y, e),
			op(api.OpIte, 2, e, y, y), op(api.OpIte, 2, x, e, y), op(api.OpIte, 2, x, y, e), op(api.OpIte, 1, x, x, op(api.OpNot, 1, e)), op(api.OpMul, 1, konst(0, 1), e),
		} {
			rejects(t, around)
		}
	}
}

// P6.1: the largest and deepest expressions are as good as any other one.
func TestLargestExpressions(t *testing.T) {
	old, now := []int{0, 1, 1, 0, 1}, []int{0, 1, 0, 1, 1}
	for _, e := range largest() {
		if !expr.Valid(e, atWidths(e), true) {
			t.Errorf("%s is not valid", plain(e))
		}
		if got, want := expr.Eval(e, old, now), worth(e, old, now); got != want {
			t.Errorf("%s: %d, not %d", plain(e), got, want)
		}
		check(t, "Before", expr.Before(e), earlier(e))
		check(t, "Subst", expr.Subst(e, nil), e)
		check(t, "Simplify", expr.Simplify(e), simple(e))
		same := []api.Assign{{Cell: 3, To: p("o3:1")}, {Cell: 31, To: api.Expr{Op: api.OpCell, W: e.W, N: 1}}}
		check(t, "Subst of leaves", expr.Subst(e, same), replaced(e, same))
		deeper := []api.Assign{{Cell: 3, To: p("not(c3:1)")}, {Cell: 31, To: op(api.OpNot, e.W, api.Expr{Op: api.OpCell, W: e.W, N: 1})}}
		check(t, "Subst of nodes", expr.Subst(e, deeper), replaced(e, deeper))
		conditions(t, e)
	}
}

// atWidths returns cells that have the widths with which an expression uses them.
func atWidths(e api.Expr) []api.Cell {
	list := make([]api.Cell, 32)
	for _, n := range nodes(e) {
		if n.Op == api.OpCell || n.Op == api.OpOld {
			list[n.N].W = n.W
		}
	}
	return list
}

// conditions checks the connectives of an expression with others, at the limits, too.
func conditions(t *testing.T, e api.Expr) {
	t.Helper()
	x := p("c0:1")
	for _, list := range [][]api.Expr{{e}, {e, x}, {x, e}, {konst(1, 1), e}, {konst(0, 1), e}, {e, konst(0, 1), e}, {e, konst(1, 1), e}} {
		check(t, "And", expr.And(list), joined(list, api.OpAnd, 0))
		check(t, "Or", expr.Or(list), joined(list, api.OpOr, 1))
		check(t, "Implies", expr.Implies(list[0], list[len(list)-1]), implied(list[0], list[len(list)-1]))
	}
}

// P6.1: connectives of lists of all lengths.
func TestLongLists(t *testing.T) {
	for _, n := range []int{0, 1, 2, 3, 38, 39, 40, 41, 42, 100, 700, 100000} {
		for every := 1; every <= 3; every++ {
			for _, last := range []api.Expr{konst(0, 1), konst(1, 1), p("c0:1"), p("not(c0:1)"), p("1:2")} {
				var list []api.Expr
				for i := range n {
					list = append(list, konst(every%2, 1))
					if every > 1 && i%every == 0 {
						list[i] = api.Expr{Op: api.OpCell, W: 1, N: i % 32}
					}
				}
				list = append(list, last)
				if n < 1000 || every == 1 {
					check(t, "And", expr.And(list), joined(list, api.OpAnd, 0))
					check(t, "Or", expr.Or(list), joined(list, api.OpOr, 1))
				}
			}
		}
	}
	for a := 1; a < 600; a += 7 {
		for b := 596 - a; b <= 601-a; b++ {
			if b > 0 {
				list := []api.Expr{sized(a, 1), sized(b, 1)}
				check(t, "And", expr.And(list), joined(list, api.OpAnd, 0))
				check(t, "Or", expr.Or(list), joined(list, api.OpOr, 1))
				check(t, "Implies", expr.Implies(list[0], list[1]), implied(list[0], list[1]))
			}
		}
	}
	many := make([]api.Expr, 200000)
	for i := range many {
		many[i] = p("c0:1")
	}
	check(t, "many", expr.And(many), api.Expr{})
	check(t, "many", expr.Or(many), api.Expr{})
	many[123456] = konst(0, 1)
	check(t, "many", expr.And(many), konst(0, 1))
}

// P6.1: Subst up to the limits of the result.
func TestLargeSubstitutions(t *testing.T) {
	sum := p("add(c0:3,c1:3)")
	for a := 590; a <= 600; a++ {
		for b := 1; b < 12; b++ {
			set := []api.Assign{{Cell: 0, To: sized(a, 3)}, {Cell: 1, To: sized(b, 3)}}
			check(t, "Subst", expr.Subst(sum, set), replaced(sum, set))
		}
	}
	for a := 1; a <= 40; a++ {
		set := []api.Assign{{Cell: 3, To: deep(41 - a)}}
		check(t, "Subst", expr.Subst(deep(a), set), deep(40))
		check(t, "Subst, too deep", expr.Subst(deep(a+1), set), api.Expr{})
	}
	all := sized(600, 1)
	check(t, "Subst, far too large", expr.Subst(all, []api.Assign{{Cell: 31, To: all}}), api.Expr{})
	var set []api.Assign
	for i := range 200000 {
		set = append(set, api.Assign{Cell: 40 - i%100, To: p("c7:3")})
	}
	check(t, "Subst with many", expr.Subst(sum, set), p("add(c7:3,c7:3)"))
}
