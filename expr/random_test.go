package expr_test

import (
	"slices"
	"testing"

	"relyguard/api"
	"relyguard/expr"
)

// some calls a function with expressions, many of which are not well-formed.
func some(seed chance, count int, use func(c *chance, e api.Expr)) {
	expressions(seed, count, func(c *chance, e api.Expr) {
		for range c.below(2) * c.below(3) {
			e = c.bent(e)
		}
		use(c, e)
	})
}

// set returns assignments, also of other widths, and some to the same cell.
func (c *chance) set(depth int) []api.Assign {
	var list []api.Assign
	for range c.below(24) {
		cell := c.below(16)
		w := 1 + cell%8
		if c.below(40) == 0 {
			w = 1 + c.below(8)
		}
		to := c.expr(w, 1+c.below(depth))
		if c.below(40) == 0 {
			to = c.bent(to)
		}
		list = append(list, api.Assign{Cell: cell, To: to})
	}
	return list
}

// P6.1: F1 to F3 and the text for random expressions.
func TestRandomExpressions(t *testing.T) {
	right, valid, values := 0, 0, map[int]int{}
	some(1, 12000, func(c *chance, e api.Expr) {
		list := cells()[:[]int{32, 32, 16, 8, 3, 0}[c.below(6)]]
		if len(list) > 0 && c.below(3) == 0 {
			list[c.below(len(list))].W = c.below(10)
		}
		for _, pair := range []bool{false, true} {
			got := expr.Valid(e, list, pair)
			if got != isOf(e, list, pair) {
				t.Fatalf("%s with %v, %v: %v", plain(e), list, pair, got)
			}
			if got {
				valid++
			}
		}
		if limit := c.below(80); expr.Size(e, limit) != min(limit, len(nodes(e))) {
			t.Fatalf("%s: size up to %d is %d", plain(e), limit, expr.Size(e, limit))
		}
		for range 4 {
			old, now := c.state(), c.state()
			got := expr.Eval(e, old, now)
			if got != worth(e, old, now) {
				t.Fatalf("%s with %v, %v: %d", plain(e), old, now, got)
			}
			values[got]++
		}
		before, after := cellsOf(e)
		if old, now := expr.Support(e); !slices.Equal(old, before) || !slices.Equal(now, after) {
			t.Fatalf("%s: %v %v", plain(e), old, now)
		}
		check(t, "Before", expr.Before(e), earlier(e))
		if text := expr.Text(e); text != written(e) {
			t.Fatalf("%s: %s", plain(e), text)
		}
		if wellFormed(e) {
			right++
		}
	})
	if right < 5000 || right > 11000 || valid < 4000 || len(values) < 100 {
		t.Errorf("%d well-formed, %d valid, %d values", right, valid, len(values))
	}
}

// P6.1: F4 for random expressions.
func TestRandomSubstitutions(t *testing.T) {
	right, different := 0, 0
	some(2, 12000, func(c *chance, e api.Expr) {
		set := c.set(4)
		got, want := expr.Subst(e, set), replaced(e, set)
		check(t, "Subst of "+plain(e), got, want)
		if wellFormed(want) {
			right++
			if !same(want, e) {
				different++
			}
		}
	})
	if right < 3000 || right > 11000 || different < 2000 {
		t.Errorf("%d are well-formed, %d are other expressions", right, different)
	}
}

// P6.1: F5 for random expressions.
func TestRandomConnectives(t *testing.T) {
	c := chance(3)
	kinds := map[int]int{}
	for range 12000 {
		var list []api.Expr
		for range c.below(5) {
			e := c.expr(1, 1+c.below(4))
			if c.below(20) == 0 {
				e = c.bent(e)
			}
			list = append(list, e)
		}
		and := expr.And(list)
		check(t, "And", and, joined(list, api.OpAnd, 0))
		check(t, "Or", expr.Or(list), joined(list, api.OpOr, 1))
		kinds[and.Op]++
		if len(list) > 1 {
			check(t, "Implies", expr.Implies(list[0], list[1]), implied(list[0], list[1]))
		}
	}
	for _, operator := range []int{0, api.OpConst, api.OpCell, api.OpNot, api.OpAnd} {
		if kinds[operator] < 200 {
			t.Errorf("operator %d only %d times", operator, kinds[operator])
		}
	}
}

// P6.1: F6 for random expressions.
func TestRandomSimplifications(t *testing.T) {
	smaller := 0
	some(4, 30000, func(c *chance, e api.Expr) {
		got := expr.Simplify(e)
		check(t, "Simplify of "+plain(e), got, simple(e))
		if wellFormed(e) && len(nodes(got)) < len(nodes(e)) {
			smaller++
		}
	})
	if smaller < 10000 {
		t.Errorf("only %d become smaller", smaller)
	}
}

// P6.1: F6 for all nodes with kids of all forms that a rule knows.
func TestAllNodes(t *testing.T) {
	for w := 1; w <= 8; w++ {
		ones := 1<<w - 1
		x, y := api.Expr{Op: api.OpCell, W: w, N: 2}, api.Expr{Op: api.OpOld, W: w, N: 2}
		list := []api.Expr{konst(0, w), konst(1, w), konst(min(2, ones), w), konst(ones-1, w), konst(ones, w), x, y, {Op: api.OpCell, W: w, N: 3}, op(api.OpNot, w, x), op(api.OpAdd, w, x, y), op(api.OpAdd, w, y, x), op(api.OpNot, w, op(api.OpNot, w, y))}
		bits := []api.Expr{konst(0, 1), konst(1, 1), p("c2:1"), p("not(c2:1)"), p("eq(0:3,c2:3)")}
		for _, a := range list {
			check(t, "OpNot", expr.Simplify(op(api.OpNot, w, a)), simple(op(api.OpNot, w, a)))
			for _, b := range list {
				for operator := api.OpAnd; operator <= api.OpLe; operator++ {
					e := op(operator, w, a, b)
					if operator >= api.OpEq {
						e.W = 1
					}
					check(t, "Simplify of "+written(e), expr.Simplify(e), simple(e))
				}
				for _, bit := range bits {
					e := op(api.OpIte, w, bit, a, b)
					check(t, "Simplify of "+written(e), expr.Simplify(e), simple(e))
				}
			}
		}
	}
}

// Rules: no function changes its arguments, and all results have memory of their own.
func TestFreshResults(t *testing.T) {
	expressions(5, 4000, func(c *chance, e api.Expr) {
		if c.below(2) == 0 {
			e = spacious(e)
		}
		other, set := c.expr(e.W, 3), c.set(3)
		args := []api.Expr{e, other}
		for i := range set {
			set[i].To = spacious(set[i].To)
			args = append(args, set[i].To)
		}
		var before []string
		for _, arg := range args {
			before = append(before, plain(arg)+written(arg))
		}
		results := map[string]api.Expr{
			"Subst": expr.Subst(e, set), "Subst with nothing": expr.Subst(e, nil), "Before": expr.Before(e), "Simplify": expr.Simplify(e),
			"And": expr.And(args), "And of two": expr.And(args[:2]), "And of one": expr.And(args[:1]), "And with 1": expr.And([]api.Expr{konst(1, 1), e}), "Or": expr.Or(args), "Or of two": expr.Or([]api.Expr{e, e}), "Or of one": expr.Or(args[1:2]),
			"Implies": expr.Implies(e, other), "Implies, not": expr.Implies(op(api.OpNot, 1, e), e), "after 1": expr.Implies(konst(1, 1), e), "before 0": expr.Implies(e, konst(0, 1)), "not before 0": expr.Implies(op(api.OpNot, 1, e), konst(0, 1)),
		}
		for what, result := range results {
			if !isFresh(result, args...) {
				t.Fatalf("%s of %s shares memory", what, plain(e))
			}
		}
		old, now := expr.Support(e)
		clear(old)
		clear(now)
		before2, after2 := cellsOf(e)
		if old, now := expr.Support(e); !slices.Equal(old, before2) || !slices.Equal(now, after2) {
			t.Fatalf("%s: %v %v", plain(e), old, now)
		}
		for i, arg := range args {
			if plain(arg)+written(arg) != before[i] {
				t.Fatalf("%s is now %s", before[i], plain(arg))
			}
		}
	})
}

// spacious returns an expression whose slices have room for more.
func spacious(e api.Expr) api.Expr {
	kids := make([]api.Expr, 0, len(e.Kids)+2)
	for _, kid := range e.Kids {
		kids = append(kids, spacious(kid))
	}
	e.Kids = kids
	return e
}

// Rules: states are only read.
func TestStatesAreKept(t *testing.T) {
	expressions(6, 500, func(c *chance, e api.Expr) {
		old, now := c.state(), c.state()
		oldBefore, nowBefore := slices.Clone(old), slices.Clone(now)
		first := expr.Eval(e, old, now)
		if again := expr.Eval(e, old, now); again != first || !slices.Equal(old, oldBefore) || !slices.Equal(now, nowBefore) {
			t.Fatalf("%s: %d, %d", plain(e), first, again)
		}
	})
}
