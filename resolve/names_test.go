package resolve_test

import (
	"testing"

	"relyguard/api"
	"relyguard/resolve"
)

const crossed = `module M owner A { record r { a : 1; b : 2; } shared x : 1; shared v : r; shared N : r; proc p(x : 2, N : 3) { local y : 4; local v : 5; call q(); } proc q() { } }
module N owner B { shared y : 3; shared x : 2; proc p() { } proc r() { } shared a : 1; }
module v owner C { shared a : 4; shared c : 5; proc q() { } }`

// P4.1: what paths denote. The variables are M.x, M.v.a, M.v.b, M.N.a, M.N.b, N.y, N.x, N.a, v.a and v.c; the procedures M.p, M.q, N.p, N.r and v.q.
func TestLookup(t *testing.T) {
	s := collected(t, crossed)
	shared := func(i int) api.Target { return api.Target{Kind: api.TargetShared, Index: i} }
	param := func(i int) api.Target { return api.Target{Kind: api.TargetParam, Index: i} }
	local := func(i int) api.Target { return api.Target{Kind: api.TargetLocal, Index: i} }
	for _, x := range []struct {
		module, proc int
		path         string
		want         api.Target
		err          api.Errno
	}{
		{0, -1, "x", shared(0), api.OK}, {0, 1, "x", shared(0), api.OK}, {0, 0, "x", param(0), api.OK}, {0, 0, "N", param(1), api.OK}, {0, 0, "M.x", shared(0), api.OK},
		{0, 0, "y", local(0), api.OK}, {0, 0, "v", local(1), api.OK}, {0, -1, "y", api.Target{}, api.ErrName}, {0, -1, "v", api.Target{}, api.ErrName},
		{0, -1, "v.a", shared(1), api.OK}, {0, 0, "v.b", shared(2), api.OK}, {0, -1, "v.c", shared(9), api.OK}, {0, -1, "M.v.a", shared(1), api.OK}, {0, -1, "M.v.c", api.Target{}, api.ErrName},
		{1, -1, "v.a", shared(8), api.OK}, {1, -1, "M.v.a", shared(1), api.OK}, {2, -1, "v.a", shared(8), api.OK}, {2, -1, "a", shared(8), api.OK}, {1, -1, "v.b", api.Target{}, api.ErrName},
		{0, -1, "N.a", shared(3), api.OK}, {0, -1, "N.x", shared(6), api.OK}, {1, -1, "N.a", shared(7), api.OK}, {1, 2, "x", shared(6), api.OK}, {1, -1, "M.N.a", shared(3), api.OK},
		{2, 4, "N.y", shared(5), api.OK}, {2, 4, "y", api.Target{}, api.ErrName}, {2, -1, "M", api.Target{}, api.ErrName}, {0, -1, "p", api.Target{}, api.ErrName}, {0, -1, "M.p", api.Target{}, api.ErrName},
		{0, -1, "", api.Target{}, api.ErrName}, {0, -1, ".", api.Target{}, api.ErrName}, {0, -1, ".x", api.Target{}, api.ErrName}, {0, -1, "M.", api.Target{}, api.ErrName}, {0, -1, "Z.x", api.Target{}, api.ErrName},
		{0, 0, "M.y", api.Target{}, api.ErrName}, {0, 0, "p.x", api.Target{}, api.ErrName}, {0, -1, "M.M.x", api.Target{}, api.ErrName}, {0, -1, "r", api.Target{}, api.ErrName},
		{-1, -1, "M.x", api.Target{}, api.ErrArg}, {3, -1, "M.x", api.Target{}, api.ErrArg}, {-2, -1, "", api.Target{}, api.ErrArg}, {0, -2, "x", api.Target{}, api.ErrArg},
		{0, 5, "x", api.Target{}, api.ErrArg}, {0, 2, "x", api.Target{}, api.ErrArg}, {1, 0, "x", api.Target{}, api.ErrArg}, {1 << 40, -1, "x", api.Target{}, api.ErrArg}, {0, -1 << 63, "x", api.Target{}, api.ErrArg},
	} {
		if got, err := resolve.Lookup(s, x.module, x.proc, x.path); got != x.want || err != x.err {
			t.Errorf("Lookup(%d, %d, %q) = %v %v", x.module, x.proc, x.path, got, err)
		}
	}
}

// P4.1: what the paths of procedures denote.
func TestProcOf(t *testing.T) {
	s := collected(t, crossed)
	for _, x := range []struct {
		module int
		path   string
		want   int
		err    api.Errno
	}{
		{0, "p", 0, api.OK}, {1, "p", 2, api.OK}, {2, "p", 0, api.ErrName}, {-1, "p", 0, api.ErrName}, {-1, "M.p", 0, api.OK}, {-1, "N.p", 2, api.OK}, {0, "N.p", 2, api.OK}, {2, "v.q", 4, api.OK},
		{0, "q", 1, api.OK}, {2, "q", 4, api.OK}, {0, "r", 0, api.ErrName}, {1, "r", 3, api.OK}, {0, "N.r", 3, api.OK}, {0, "M.r", 0, api.ErrName}, {0, "x", 0, api.ErrName}, {0, "M.x", 0, api.ErrName},
		{0, "", 0, api.ErrName}, {-1, ".", 0, api.ErrName}, {0, "N.", 0, api.ErrName}, {0, ".p", 0, api.ErrName}, {0, "M.N.p", 0, api.ErrName}, {0, "Z.p", 0, api.ErrName},
		{-2, "M.p", 0, api.ErrArg}, {3, "M.p", 0, api.ErrArg}, {1<<63 - 1, "p", 0, api.ErrArg},
	} {
		if got, err := resolve.ProcOf(s, x.module, x.path); got != x.want || err != x.err {
			t.Errorf("ProcOf(%d, %q) = %d %v", x.module, x.path, got, err)
		}
	}
	if i, err := resolve.ProcOf(api.Symbols{}, -1, "M.p"); i != 0 || err != api.ErrName {
		t.Error(i, err)
	}
	if target, err := resolve.Lookup(api.Symbols{}, 0, -1, "x"); target != (api.Target{}) || err != api.ErrArg {
		t.Error(target, err)
	}
}

// P4.1: of several declarations with one name, the first one counts, also that of a module that lacks what a later one has.
func TestFirstOfSeveral(t *testing.T) {
	s := api.Symbols{
		Modules: []api.Module{{Name: "M"}, {Name: "N"}, {Name: "N"}},
		Vars:    []api.Var{{Name: "x", Module: -1}, {Name: "x", Module: 2}, {Name: "x"}, {Name: "x"}, {Name: "y", Module: 2}, {Name: "M.x", Module: 1}, {Name: "x", Module: 9}},
		Procs: []api.Proc{{Name: "p", Module: -1}, {Name: "p", Module: 2}, {Name: "p"}, {Name: "p"},
			{Name: "q", Module: 1, Params: []api.Var{{Name: "a.b"}, {Name: "c"}, {Name: "c"}}, Locals: []api.Var{{Name: "d"}, {Name: "c"}, {Name: "d"}}}},
	}
	for path, want := range map[string]api.Target{
		"x": {}, "M.x": {Kind: api.TargetShared, Index: 5}, "y": {}, "N.x": {}, "N.y": {}, "N.M.x": {Kind: api.TargetShared, Index: 5},
		"a.b": {Kind: api.TargetParam}, "c": {Kind: api.TargetParam, Index: 1}, "d": {Kind: api.TargetLocal},
	} {
		wantErr := api.OK
		if want.Kind == 0 {
			wantErr = api.ErrName
		}
		if got, err := resolve.Lookup(s, 1, 4, path); got != want || err != wantErr {
			t.Errorf("%s: %v %v", path, got, err)
		}
	}
	for module, want := range map[int]int{0: 2, 2: 1} {
		if got, err := resolve.ProcOf(s, module, "p"); got != want || err != api.OK {
			t.Errorf("%d: %d %v", module, got, err)
		}
	}
	for _, path := range []string{"p", "N.p"} {
		if got, err := resolve.ProcOf(s, -1, path); got != 0 || err != api.ErrName {
			t.Errorf("%s: %d %v", path, got, err)
		}
	}
	agreeOnCalls(t, s)
}

// P4.1: Order takes the smallest procedure that is ready, and reports wrong indices before cycles.
func TestOrder(t *testing.T) {
	for _, x := range []struct {
		calls [][]int
		want  string
		err   api.Errno
	}{
		{nil, "[]", api.OK}, {[][]int{{}}, "[0]", api.OK}, {[][]int{{}, {}, {}}, "[0 1 2]", api.OK}, {[][]int{{1}, {2}, {}}, "[2 1 0]", api.OK}, {[][]int{{3}, {}, {}, {}}, "[1 2 3 0]", api.OK},
		{[][]int{{2}, {3}, {}, {}}, "[2 0 3 1]", api.OK}, {[][]int{{2, 2, 3}, {}, {3, 3}, {}}, "[1 3 2 0]", api.OK}, {[][]int{{4, 1}, {4}, {0}, {}, {3}}, "[3 4 1 0 2]", api.OK},
		{[][]int{{0}}, "[]", api.ErrCycle}, {[][]int{{1}, {0}}, "[]", api.ErrCycle}, {[][]int{{}, {0, 2}, {3}, {1}}, "[]", api.ErrCycle}, {[][]int{{}, {2}, {2}}, "[]", api.ErrCycle},
		{[][]int{{1}}, "[]", api.ErrArg}, {[][]int{{-1}}, "[]", api.ErrArg}, {[][]int{{0}, {2}}, "[]", api.ErrArg}, {[][]int{{1}, {0, -1 << 63}}, "[]", api.ErrArg}, {[][]int{{}, {}, {1, 3}}, "[]", api.ErrArg},
	} {
		var s api.Symbols
		for _, calls := range x.calls {
			s.Procs = append(s.Procs, api.Proc{Calls: calls, Module: 7})
		}
		if got, err := resolve.Order(s); text(got) != x.want || err != x.err {
			t.Errorf("%v: %v %v", x.calls, got, err)
		}
	}
}
