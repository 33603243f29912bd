package typing_test

import (
	"testing"

	"relyguard/api"
	"relyguard/typing"
)

// P5.1: Width for random expressions, for all requirements.
func TestRandomExpressions(t *testing.T) {
	c := chance(1)
	errs := map[api.Errno]int{}
	right := 0
	for range 1200 {
		s := c.declarations()
		for _, p := range places(s) {
			e := c.expr(p, 1+c.below(4), c.below(6))
			for range c.below(2) * c.below(4) {
				c.bend(&e)
			}
			for want := -1; want <= 9; want++ {
				_, diags := agreeOnWidth(t, s, p.module, p.proc, e, want)
				for _, d := range diags {
					errs[d.Err]++
				}
				if want == 0 && len(diags) == 0 {
					right++
				}
			}
		}
	}
	for _, err := range []api.Errno{api.ErrArg, api.ErrLimit, api.ErrName, api.ErrPlace, api.ErrWidth, api.ErrIndex} {
		if errs[err] < 250 {
			t.Errorf("%v only %d times", err, errs[err])
		}
	}
	if right < 1000 {
		t.Errorf("only %d expressions without diagnostics", right)
	}
}

// P5.1: Check for random symbols.
func TestRandomSymbols(t *testing.T) {
	c := chance(2)
	errs := map[api.Errno]int{}
	full, right := 0, 0
	for range 4000 {
		s := c.symbols(1 + c.below(3))
		list := trees(&s)
		for range []int{0, c.below(9), c.below(9), c.below(200)}[c.below(4)] {
			c.bend(list[c.below(len(list))])
		}
		before := text(s)
		diags := agreeOnCheck(t, s)
		if text(s) != before {
			t.Fatalf("Check changes %s", before)
		}
		for _, d := range diags {
			errs[d.Err]++
		}
		if len(diags) == api.MaxDiags {
			full++
		}
		if len(diags) == 0 {
			right++
		}
	}
	for _, err := range []api.Errno{api.ErrLimit, api.ErrName, api.ErrCall, api.ErrPlace, api.ErrWidth, api.ErrIndex} {
		if errs[err] < 100 {
			t.Errorf("%v only %d times", err, errs[err])
		}
	}
	if full < 100 || right < 200 {
		t.Errorf("%d with all diagnostics, %d with none", full, right)
	}
}

// Rules: Width changes nothing, and its result belongs to the caller.
func TestFreshResults(t *testing.T) {
	c := chance(3)
	for range 300 {
		s := c.declarations()
		for _, p := range places(s) {
			e := c.expr(p, 1+c.below(4), 3)
			c.bend(&e)
			before, tree := text(s), text(e)
			width, diags := typing.Width(s, p.module, p.proc, e, 1)
			result := text(diags)
			again, others := typing.Width(s, p.module, p.proc, e, 1)
			clear(others)
			if text(s) != before || text(e) != tree || again != width || text(diags) != result {
				t.Fatalf("%s\n%s", before, tree)
			}
		}
	}
}
