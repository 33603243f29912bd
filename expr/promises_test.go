package expr_test

import (
	"slices"
	"testing"

	"relyguard/api"
	"relyguard/expr"
)

// full returns values for all cells, so that one of them can be changed.
func (c *chance) full() []int {
	list := make([]int, 32)
	for i := range list {
		list[i] = c.element()
	}
	return list
}

// P6.2: the value of a substitution is that for the state after the assignments.
func TestSubstitution(t *testing.T) {
	count := 0
	expressions(11, 8000, func(c *chance, e api.Expr) {
		set := c.set(4)
		result := expr.Subst(e, set)
		if same(result, api.Expr{}) {
			return
		}
		old, now := c.full(), c.full()
		after := slices.Clone(now)
		for _, a := range slices.Backward(set) {
			after[a.Cell] = expr.Eval(a.To, old, now)
		}
		if got, want := expr.Eval(result, old, now), expr.Eval(e, old, after); got != want {
			t.Fatalf("%s after %v: %d, not %d", plain(e), set, got, want)
		}
		count++
	})
	if count < 4000 {
		t.Errorf("only %d results", count)
	}
}

// composed returns one set that does the same as two sets, one after the other.
func composed(first, second []api.Assign) []api.Assign {
	var list []api.Assign
	for _, a := range first {
		list = append(list, api.Assign{Cell: a.Cell, To: expr.Subst(a.To, second)})
	}
	return append(list, second...)
}

// P6.2: two substitutions are the same as the composed one.
func TestComposition(t *testing.T) {
	count := 0
	expressions(12, 8000, func(c *chance, e api.Expr) {
		first, second := c.set(3), c.set(2)
		twice := expr.Subst(expr.Subst(e, first), second)
		if same(twice, api.Expr{}) {
			return
		}
		check(t, "composed", expr.Subst(e, composed(first, second)), twice)
		if !same(twice, e) {
			count++
		}
	})
	if count < 1500 {
		t.Errorf("only %d results", count)
	}
}

// P6.3: cells outside of the support do not change the value, and some cells of it do.
func TestSupportOfValues(t *testing.T) {
	changes := 0
	expressions(13, 5000, func(c *chance, e api.Expr) {
		old, now := c.full(), c.full()
		value := expr.Eval(e, old, now)
		before, after := expr.Support(e)
		otherOld, otherNow := c.full(), c.full()
		for _, cell := range before {
			otherOld[cell] = old[cell]
		}
		for _, cell := range after {
			otherNow[cell] = now[cell]
		}
		if got := expr.Eval(e, otherOld, otherNow); got != value {
			t.Fatalf("%s: %d, not %d, although only cells outside of %v %v change", plain(e), got, value, before, after)
		}
		for _, cell := range after {
			otherNow[cell]++
		}
		if expr.Eval(e, otherOld, otherNow) != value {
			changes++
		}
	})
	if changes < 500 {
		t.Errorf("only %d other values", changes)
	}
}

// holds checks that the support of a result lies in those of arguments, and that its cells come from where they say.
func holds(t *testing.T, what string, result api.Expr, args ...api.Expr) {
	t.Helper()
	var old, now []int
	for _, arg := range args {
		before, after := expr.Support(arg)
		old, now = append(old, before...), append(now, after...)
	}
	before, after := expr.Support(result)
	for _, cell := range before {
		if !slices.Contains(old, cell) {
			t.Fatalf("%s: %s has old %d", what, plain(result), cell)
		}
	}
	for _, cell := range after {
		if !slices.Contains(now, cell) {
			t.Fatalf("%s: %s has %d", what, plain(result), cell)
		}
	}
}

// P6.3: the support of a result is contained in those of the arguments.
func TestSupportOfResults(t *testing.T) {
	expressions(14, 4000, func(c *chance, e api.Expr) {
		other, set := c.expr(1, 4), c.set(3)
		holds(t, "Simplify", expr.Simplify(e), e)
		holds(t, "And", expr.And([]api.Expr{e, other}), e, other)
		holds(t, "Or", expr.Or([]api.Expr{e, other}), e, other)
		holds(t, "Implies", expr.Implies(e, other), e, other)
		args := []api.Expr{e}
		for _, a := range set {
			args = append(args, a.To)
		}
		holds(t, "Subst", expr.Subst(e, set), args...)
		before, after := expr.Support(e)
		all := append(before, after...)
		slices.Sort(all)
		if old, now := expr.Support(expr.Before(e)); !slices.Equal(old, slices.Compact(all)) || len(now) > 0 {
			t.Fatalf("Before of %s: %v %v", plain(e), old, now)
		}
	})
}

// P6.4: Simplify keeps the value and the width, adds no node, and leaves its own results alone.
func TestSimplification(t *testing.T) {
	list := largest()
	expressions(15, 10000, func(c *chance, e api.Expr) { list = append(list, e) })
	c := chance(16)
	for _, e := range list {
		if !wellFormed(e) {
			continue
		}
		result := expr.Simplify(e)
		if result.W != e.W || expr.Size(result, 1000) > expr.Size(e, 1000) || !wellFormed(result) {
			t.Fatalf("%s becomes %s", plain(e), plain(result))
		}
		check(t, "Simplify, twice", expr.Simplify(result), result)
		for range 5 {
			old, now := c.state(), c.state()
			if got, want := expr.Eval(result, old, now), expr.Eval(e, old, now); got != want {
				t.Fatalf("%s becomes %s: %d, not %d", plain(e), plain(result), got, want)
			}
		}
	}
}

// P6.6: the values of connectives.
func TestTruth(t *testing.T) {
	c := chance(17)
	ones := 0
	for range 8000 {
		var list []api.Expr
		for range c.below(6) {
			list = append(list, c.expr(1, 1+c.below(4)))
		}
		and, or := expr.And(list), expr.Or(list)
		for range 4 {
			old, now := c.state(), c.state()
			all, any := 1, 0
			for _, e := range list {
				all, any = min(all, expr.Eval(e, old, now)), max(any, expr.Eval(e, old, now))
			}
			if expr.Eval(and, old, now) != all || expr.Eval(or, old, now) != any || and.W != 1 || or.W != 1 {
				t.Fatalf("%s, %s: not %d, %d", plain(and), plain(or), all, any)
			}
			ones += all
			if len(list) < 2 {
				continue
			}
			implies := expr.Implies(list[0], list[1])
			want := max(1-expr.Eval(list[0], old, now), expr.Eval(list[1], old, now))
			if got := expr.Eval(implies, old, now); got != want {
				t.Fatalf("%s: %d, not %d", plain(implies), got, want)
			}
		}
	}
	if ones < 5000 {
		t.Errorf("only %d conjunctions are true", ones)
	}
}

// mixed exchanges some of the two kinds of references to cells.
func (c *chance) mixed(e api.Expr) api.Expr {
	if (e.Op == api.OpCell || e.Op == api.OpOld) && c.below(2) == 0 {
		e.Op = api.OpCell + api.OpOld - e.Op
	}
	e.Kids = slices.Clone(e.Kids)
	for i := range e.Kids {
		e.Kids[i] = c.mixed(e.Kids[i])
	}
	return e
}

// P6.7: Before speaks of the state before, and equal states cannot be told apart.
func TestTwoStates(t *testing.T) {
	single := 0
	expressions(18, 6000, func(c *chance, e api.Expr) {
		old, now := c.state(), c.state()
		before, _ := expr.Support(e)
		if len(before) == 0 {
			single++
			if got, want := expr.Eval(expr.Before(e), now, old), expr.Eval(e, nil, now); got != want {
				t.Fatalf("Before of %s: %d, not %d", plain(e), got, want)
			}
		}
		if got, want := expr.Eval(c.mixed(e), now, now), expr.Eval(e, now, now); got != want {
			t.Fatalf("%s: %d, not %d", plain(e), got, want)
		}
		if got, want := expr.Eval(expr.Before(e), old, now), expr.Eval(e, old, old); got != want {
			t.Fatalf("Before of %s: %d, not %d", plain(e), got, want)
		}
	})
	if single < 1000 {
		t.Errorf("only %d without OpOld", single)
	}
}

// law says that two expressions of the same width have the same value; a, b and d are of the width w, and k of one bit.
type law func(w int, a, b, d, k api.Expr) (left, right api.Expr)

func not(e api.Expr) api.Expr { return op(api.OpNot, e.W, e) }

// with returns what joins two expressions by an operator.
func with(operator int) func(a, b api.Expr) api.Expr {
	return func(a, b api.Expr) api.Expr {
		if operator >= api.OpEq {
			return op(operator, 1, a, b)
		}
		return op(operator, a.W, a, b)
	}
}

var and, or, xor, add, sub, mul, eq, lt, le = with(api.OpAnd), with(api.OpOr), with(api.OpXor), with(api.OpAdd), with(api.OpSub), with(api.OpMul), with(api.OpEq), with(api.OpLt), with(api.OpLe)

// arithmetic are laws of the numbers modulo a power of two.
var arithmetic = []law{
	func(w int, a, b, d, k api.Expr) (api.Expr, api.Expr) { return add(a, b), add(b, a) },
	func(w int, a, b, d, k api.Expr) (api.Expr, api.Expr) { return add(add(a, b), d), add(a, add(b, d)) },
	func(w int, a, b, d, k api.Expr) (api.Expr, api.Expr) { return add(a, konst(0, w)), a },
	func(w int, a, b, d, k api.Expr) (api.Expr, api.Expr) { return sub(a, a), konst(0, w) },
	func(w int, a, b, d, k api.Expr) (api.Expr, api.Expr) { return add(sub(a, b), b), a },
	func(w int, a, b, d, k api.Expr) (api.Expr, api.Expr) {
		return sub(a, b), add(a, add(not(b), konst(1, w)))
	},
	func(w int, a, b, d, k api.Expr) (api.Expr, api.Expr) { return not(a), sub(konst(1<<w-1, w), a) },
	func(w int, a, b, d, k api.Expr) (api.Expr, api.Expr) { return mul(a, b), mul(b, a) },
	func(w int, a, b, d, k api.Expr) (api.Expr, api.Expr) { return mul(mul(a, b), d), mul(a, mul(b, d)) },
	func(w int, a, b, d, k api.Expr) (api.Expr, api.Expr) { return mul(a, konst(1, w)), a },
	func(w int, a, b, d, k api.Expr) (api.Expr, api.Expr) { return mul(a, konst(0, w)), konst(0, w) },
	func(w int, a, b, d, k api.Expr) (api.Expr, api.Expr) {
		return mul(a, konst(1<<w-1, w)), sub(konst(0, w), a)
	},
	func(w int, a, b, d, k api.Expr) (api.Expr, api.Expr) {
		return mul(a, add(b, d)), add(mul(a, b), mul(a, d))
	},
	func(w int, a, b, d, k api.Expr) (api.Expr, api.Expr) {
		return mul(a, sub(b, d)), sub(mul(a, b), mul(a, d))
	},
	func(w int, a, b, d, k api.Expr) (api.Expr, api.Expr) {
		return add(xor(a, b), mul(konst(2&(1<<w-1), w), and(a, b))), add(a, b)
	},
	func(w int, a, b, d, k api.Expr) (api.Expr, api.Expr) { return eq(sub(a, b), konst(0, w)), eq(a, b) },
	func(w int, a, b, d, k api.Expr) (api.Expr, api.Expr) { return eq(a, b), and(le(a, b), le(b, a)) },
	func(w int, a, b, d, k api.Expr) (api.Expr, api.Expr) { return lt(a, b), not(le(b, a)) },
	func(w int, a, b, d, k api.Expr) (api.Expr, api.Expr) { return le(a, b), or(lt(a, b), eq(a, b)) },
	func(w int, a, b, d, k api.Expr) (api.Expr, api.Expr) {
		return and(and(le(a, b), le(b, d)), lt(d, a)), konst(0, 1)
	},
	func(w int, a, b, d, k api.Expr) (api.Expr, api.Expr) {
		return lt(a, add(a, konst(1, w))), not(eq(a, konst(1<<w-1, w)))
	},
	func(w int, a, b, d, k api.Expr) (api.Expr, api.Expr) { return le(a, b), le(not(b), not(a)) },
	func(w int, a, b, d, k api.Expr) (api.Expr, api.Expr) {
		return add(ite(k, a, b), ite(k, b, a)), add(a, b)
	},
}

// algebra are laws of Boolean algebras.
var algebra = []law{
	func(w int, a, b, d, k api.Expr) (api.Expr, api.Expr) { return and(a, b), and(b, a) },
	func(w int, a, b, d, k api.Expr) (api.Expr, api.Expr) { return or(a, b), or(b, a) },
	func(w int, a, b, d, k api.Expr) (api.Expr, api.Expr) { return and(and(a, b), d), and(a, and(b, d)) },
	func(w int, a, b, d, k api.Expr) (api.Expr, api.Expr) { return or(or(a, b), d), or(a, or(b, d)) },
	func(w int, a, b, d, k api.Expr) (api.Expr, api.Expr) {
		return and(a, or(b, d)), or(and(a, b), and(a, d))
	},
	func(w int, a, b, d, k api.Expr) (api.Expr, api.Expr) {
		return or(a, and(b, d)), and(or(a, b), or(a, d))
	},
	func(w int, a, b, d, k api.Expr) (api.Expr, api.Expr) { return and(a, or(a, b)), a },
	func(w int, a, b, d, k api.Expr) (api.Expr, api.Expr) { return or(a, and(a, b)), a },
	func(w int, a, b, d, k api.Expr) (api.Expr, api.Expr) { return and(a, konst(1<<w-1, w)), a },
	func(w int, a, b, d, k api.Expr) (api.Expr, api.Expr) { return or(a, konst(0, w)), a },
	func(w int, a, b, d, k api.Expr) (api.Expr, api.Expr) { return and(a, not(a)), konst(0, w) },
	func(w int, a, b, d, k api.Expr) (api.Expr, api.Expr) { return or(a, not(a)), konst(1<<w-1, w) },
	func(w int, a, b, d, k api.Expr) (api.Expr, api.Expr) { return not(and(a, b)), or(not(a), not(b)) },
	func(w int, a, b, d, k api.Expr) (api.Expr, api.Expr) { return not(or(a, b)), and(not(a), not(b)) },
	func(w int, a, b, d, k api.Expr) (api.Expr, api.Expr) { return not(not(a)), a },
	func(w int, a, b, d, k api.Expr) (api.Expr, api.Expr) {
		return xor(a, b), or(and(a, not(b)), and(not(a), b))
	},
	func(w int, a, b, d, k api.Expr) (api.Expr, api.Expr) { return xor(xor(a, b), b), a },
	func(w int, a, b, d, k api.Expr) (api.Expr, api.Expr) { return eq(a, b), eq(xor(a, b), konst(0, w)) },
	func(w int, a, b, d, k api.Expr) (api.Expr, api.Expr) { return ite(k, a, b), ite(not(k), b, a) },
	func(w int, a, b, d, k api.Expr) (api.Expr, api.Expr) {
		return not(ite(k, a, b)), ite(k, not(a), not(b))
	},
	func(w int, a, b, d, k api.Expr) (api.Expr, api.Expr) { return ite(k, a, a), a },
	func(w int, a, b, d, k api.Expr) (api.Expr, api.Expr) {
		return eq(k, ite(k, konst(1, 1), konst(0, 1))), konst(1, 1)
	},
}

func ite(k, a, b api.Expr) api.Expr { return op(api.OpIte, a.W, k, a, b) }

// P6.8: the laws hold for all values of up to 3 bits, and for many of other widths.
func TestLaws(t *testing.T) {
	c := chance(19)
	for i, l := range slices.Concat(arithmetic, algebra) {
		for w := 1; w <= 8; w++ {
			a, b, d, k := api.Expr{Op: api.OpCell, W: w}, api.Expr{Op: api.OpOld, W: w, N: 1}, api.Expr{Op: api.OpCell, W: w, N: 2}, api.Expr{Op: api.OpOld, W: 1, N: 3}
			left, right := l(w, a, b, d, k)
			for n := range 1024 {
				x, y, z, bit := n&7, n>>3&7, n>>6&7, n>>9
				if w > 3 {
					x, y, z = c.below(1<<w), c.below(1<<w), c.below(1<<w)
				}
				old, now := []int{0, y, 0, bit}, []int{x, 0, z}
				if got, want := expr.Eval(left, old, now), expr.Eval(right, old, now); got != want {
					t.Fatalf("law %d: %s is %d, %s is %d, for %d, %d, %d, %d", i, written(left), got, written(right), want, x, y, z, bit)
				}
			}
		}
	}
}

// P6.8: the laws hold for all expressions.
func TestLawsOfExpressions(t *testing.T) {
	c := chance(20)
	for range 200 {
		for i, l := range slices.Concat(arithmetic, algebra) {
			w := 1 + c.below(8)
			left, right := l(w, c.expr(w, 3), c.expr(w, 3), c.expr(w, 3), c.expr(1, 3))
			old, now := c.state(), c.state()
			if got, want := expr.Eval(left, old, now), expr.Eval(right, old, now); got != want {
				t.Fatalf("law %d: %s is %d, %s is %d", i, written(left), got, written(right), want)
			}
		}
	}
}
