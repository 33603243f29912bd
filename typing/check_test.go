package typing_test

import (
	"strings"
	"testing"

	"relyguard/api"
	"relyguard/typing"
)

// checkSource checks a source whose declarations are right, with marks.
func checkSource(t *testing.T, marked string) {
	t.Helper()
	source, want := unmark(marked)
	if diags := agreeOnCheck(t, collected(t, source)); text(diags) != text(want) {
		t.Errorf("%s\n%v, want %v", marked, diags, want)
	}
}

// checkDeclarations checks declarations of the module M, and checkBodies statements of its procedure f.
func checkDeclarations(t *testing.T, list ...string) {
	t.Helper()
	for _, marked := range list {
		checkSource(t, strings.Replace(bank, "proc f(", marked+" proc f(", 1))
	}
}

func checkBodies(t *testing.T, list ...string) {
	t.Helper()
	for _, marked := range list {
		checkSource(t, strings.Replace(bank, "local h : 5;", "local h : 5; "+marked, 1))
	}
}

// P5.1: the contracts of modules.
func TestContracts(t *testing.T) {
	checkDeclarations(t,
		"", "rely 1;", "rely old(x) <= x;", "rely #1W x;", "rely #1W 2;", "rely #1N p;", "rely old(#1N nothing);", "rely all i < 2 : old(v[i]) <= v[i];", "rely old(M.x) == 7 && old(N.x) == 31;", "rely x == #1W N.x;",
		"guarantee y;", "guarantee old(x) <= x;", "guarantee #1W x;", "guarantee y + y == #1W 2;", "guarantee #2W x; rely #1W x;",
		"frame x;", "frame x, v, e.a, M.z, N.w, N.x, h.b;", "frame #1N nothing, x, #2N e, #3N p, #4N N.e.a, #5N N, #6N a;", "frame #3N nothing; guarantee #2W z; rely #1W z;",
	)
	checkSource(t, "module M owner A { guarantee #2W x; rely #1W x; frame #3N y; shared x : 2; } module N owner A { frame #5N z, #6N x, y; shared y : 3; rely M.x + #4W y == M.x; }")
}

// P5.1: nodes of frames and contracts that no source has.
func TestUnusualContracts(t *testing.T) {
	s := collected(t, bank)
	zero := api.Node{Kind: api.NodeNumber, At: 9}
	s.Modules[0].Frame = []api.Node{
		{Kind: api.NodeRef, Name: "x", At: 1}, {Kind: api.NodeRef, Name: "v", At: 2, Kids: []api.Node{zero}}, {Kind: api.NodeRef, Name: "x", At: 3, Kids: []api.Node{{}}},
		{Kind: api.NodeSkip, Name: "x", At: 4}, {Kind: api.NodeNone, At: 5}, {Kind: api.NodeNone, At: 6, Kids: []api.Node{zero}}, {Kind: api.NodeNumber, Name: "y", At: 7, Kids: []api.Node{zero}},
	}
	want := []api.Diag{{Err: api.ErrIndex, At: 2}, {Err: api.ErrIndex, At: 3}, {Err: api.ErrName, At: 5}, {Err: api.ErrName, At: 6}, {Err: api.ErrIndex, At: 7}}
	if diags := agreeOnCheck(t, s); text(diags) != text(want) {
		t.Error(diags)
	}
	s = collected(t, bank)
	s.Modules[1].Rely, s.Modules[1].Guar, s.Locks[2].Inv = api.Node{At: 3}, api.Node{Kind: api.NodeSkip, At: 4}, api.Node{Kind: api.NodeBlock, At: 5}
	s.Procs[0].Body = api.Node{At: 6}
	want = []api.Diag{{Err: api.ErrPlace, At: 3}, {Err: api.ErrPlace, At: 4}, {Err: api.ErrPlace, At: 5}, {Err: api.ErrPlace, At: 6}}
	if diags := agreeOnCheck(t, s); text(diags) != text(want) {
		t.Error(diags)
	}
	none := api.Node{Kind: api.NodeNone, At: 8, Kids: []api.Node{zero}}
	s.Modules[1].Rely, s.Modules[1].Guar, s.Locks[2].Inv, s.Procs[0].Body = none, none, none, none
	if diags := agreeOnCheck(t, s); len(diags) != 0 {
		t.Error(diags)
	}
}

// P5.1: the invariants of locks.
func TestInvariants(t *testing.T) {
	checkDeclarations(t,
		"lock l invariant x == 7;", "lock l invariant #1W x;", "lock l invariant #1P old(x) == 7;", "lock l invariant y && #1P old(y);", "lock l invariant #1N p;", "lock l invariant all i < 2 : v[i] == 3;", "lock l invariant #1L all i < 9 : y;",
	)
	checkSource(t, "module M owner A { lock a invariant x == 1; lock b invariant #1W x; shared x : 2; } module N owner A { lock a invariant #2N x; lock b invariant x_; shared x_ : 1; }")
}

// P5.1: blocks, and statements that consist of an expression.
func TestClaims(t *testing.T) {
	checkBodies(t,
		"", "skip; fence; local f_ : 3; ghost local g_ : 1;", "assert x == 1;", "assert #1W x;", "assert #1W 2; assert p; assert #2N nothing;", "await y;", "await #1W k;", "assert #1P old(x) == 1;", "await y == #1P old(y);",
		"assert all i < 2 : v[i] == l;", "assert all i < 3 : v[#1I i] == l; await v[#2I 2] == l;", "assert h == 31; assert M.z == 255; assert z == #1W 4;",
		"if y { assert #1W x; if y { assert #2W x; } else { assert #3W z; } } else { assert #4W k; } assert #5W k;",
	)
}

// P5.1: assignments.
func TestAssignments(t *testing.T) {
	checkBodies(t,
		"p := y;", "k := x;", "k := #1W l;", "x := 7;", "x := #1W 8;", "x := x + 1;", "z := 3;", "z := #1W 4;", "M.z := 255;", "M.z := #1W 256;", "release x := #1W 8;", "N.x := 31;", "l := x #1W == 1;", "p := x == 1;", "p := x == #1W 8;",
		"v[0] := l;", "v[1] := 3;", "v[#1I 2] := 3;", "v[#1I 2] := #2W 4;", "#1I v := 3;", "#1I v := #2W 4;", "#1I x[0] := 7;", "#1I x[#2N nothing] := #3W 8;", "v[p] := v[k];", "v[l] := v[#1I v];", "#1I l[1] := 3;",
		"#1N nothing := 255;", "#1N nothing := #2W 256;", "#1N nothing := x;", "#1N nothing := x + #2W 8;", "#1N nothing[#2N nothing] := #3N nothing;", "x := #1P old(x);", "x := #1P old(#2W y);",
		"x := 1 with y := 1, k := 7;", "x := #1W 8 with y := #2W 2, k := #3W 8, #4N nothing := l + #5W k;", "#1I x[0] := 1 with #2I v := 0;", "v[0] := l with v[1] := #1W k, #2I v := 0, v[v[0]] := 0;",
		"atomic { };", "atomic { } when y;", "atomic { } when #1W x;", "atomic { } when #1P old(y);", "atomic { x := x + 1 };", "atomic { x := #1W 8, #2N nothing := 0, v[#3I 2] := l };", "atomic { x := #2W 8, y := 1, y := #3W z } when #1N nothing;", "atomic { x := 7, k := x } when x < 7;",
	)
}

// P5.1: cas.
func TestCas(t *testing.T) {
	checkBodies(t,
		"cas x, 0, 7 into p;", "cas x, #1W 8, #2W 9 into p;", "cas x, k, #1W l into y;", "cas v[1], l, 3 into p;", "cas v[#1I 2], l, #2W 4 into p;", "cas #1I v, l, #2W 4 into p;", "cas #1I x[0], 7, #2W 8 into p;", "cas N.x, 31, #1W 32 into p;", "cas M.z, 255, #1W 256 into p;",
		"cas #1P k, 7, x into p;", "cas #1P k, #2W 8, #3W y into p;", "cas #1P l, 3, #2W 4 into p;", "cas #1P z, 3, #2W 4 into p;", "cas #1P p[nothing], 1, #2W 2 into p;", "cas #1N nothing, 255, #2W 256 into p;", "cas #1N nothing, x, z + #2W 4 into p;", "cas #1N nothing[#2N nothing], y, y into p;",
		"cas x, 0, 1 into #1W l;", "cas x, 0, 1 into #1N nothing;", "cas x, 0, 1 into #1I y[0];", "cas x, 0, 1 into #1I v;", "cas x, 0, 1 into #1W v[#2I 2];", "cas x, 0, 1 into N.w[2];", "cas x, 0, 1 into M.y;", "cas x, y #1W == 1, 1 into p;",
		"cas x, 0, 1 into p with k := 7, l := #1W 4;", "cas #1P k, #2W 8, #3W 8 into #4W k with #5N nothing := #6W 256, v[#7I 2] := x #8W == #9W 8;", "cas #1P k, #2P old(x), #3P old(#4W y) into p;",
	)
}

// P5.1: conditions and loops.
func TestBranchesAndLoops(t *testing.T) {
	checkBodies(t,
		"if y { }", "if #1W x { }", "if #1P old(y) { } else { }", "if #1N nothing { x := #2W 8; } else { x := #3W 9; }", "if y { y := #1W 2; } y := #2W 3;",
		"while y { }", "while #1W x { x := #2W 8; }", "while y variant 3 - x { }", "while y variant 3 - #1W 8 + x { x := #2W 8; }", "while #1N nothing variant #2W 256 { #3N nothing := 1; }", "while y variant x == #1W 8 { }", "while y variant 255 { }", "while y variant #1P old(x) { }", "while y variant #1I v { while y variant #2I v { } }",
	)
}

// P5.1: calls, locks and threads.
func TestNamesOfStatements(t *testing.T) {
	checkBodies(t,
		"call N.g(l, 127);", "call N.g(#1W 4, #2W 128);", "call N.g(#1W k, #2W x + 0);", "#1C call N.g();", "#1C call N.g(3);", "#1C call N.g(#2W 4);", "#1C call N.g(3, 127, 255);", "#1C call N.g(#2W 4, #3W 128, #4W 256, x + #5W 8, x);",
		"#1N call g(255, #2W 256);", "#1N call nothing();", "#1N call nothing(x, #2N nothing, x == #3W 8);", "#1N call N.f(1, 2, 3);", "#1N call x();", "#1N call M(k + #2W 8);", "call N.g(#1P old(v[0]), #2N nothing);",
		"acquire m; free m;", "#1N acquire n; #2N free n;", "#1N acquire M.m; #2N free N.n; #3N acquire x; #4N free nothing; #5N acquire t;",
		"spawn t; join t; spawn u; join u;", "#1N spawn v; #2N join m; #3N spawn nothing; #4N join f;",
	)
	checkSource(t, "module M owner A { shared x : 1; lock l invariant 1; proc f(a : 1) { #1N acquire k; #2N call g(); call N.g(#3W 2); } } module N owner A { lock k invariant 1; proc g(a : 1) { free k; #4N free l; call f(#5W 4, #6W 256); #7N spawn f; } proc f(b : 2, c : 8) { #8N call M.g(); } } thread x = M.f(1);")
}

// P5.1: the reports come in the order of the declarations, those of modules before those of locks and procedures.
func TestOrderOfReports(t *testing.T) {
	checkSource(t, "module M owner A { proc f() { #7N spawn t; #8N call q(); } lock l invariant #5N c; proc g(p : 1) { p := #9W 2; } frame #3N d; guarantee #2N b; rely #1N a; } "+
		"module N owner B { proc h() { #10N join t; } lock l invariant #6N f; rely #4N e; }")
}

// P5.1: symbols that are not usable.
func TestUnusableSymbols(t *testing.T) {
	variable := func(change func(v *api.Var)) []func(s *api.Symbols) {
		return []func(s *api.Symbols){
			func(s *api.Symbols) { change(&s.Vars[0]) }, func(s *api.Symbols) { change(&s.Vars[len(s.Vars)-1]) },
			func(s *api.Symbols) { change(&s.Procs[0].Params[2]) }, func(s *api.Symbols) { change(&s.Procs[1].Params[0]) },
			func(s *api.Symbols) { change(&s.Procs[0].Locals[0]) }, func(s *api.Symbols) { change(&s.Procs[0].Locals[1]) },
		}
	}
	var wrong, right []func(s *api.Symbols)
	for _, n := range []int{0, -1, 9, 1 << 40, -1 << 63, 1<<63 - 1} {
		wrong = append(wrong, variable(func(v *api.Var) { v.W = n })...)
		if n != 0 {
			wrong = append(wrong, variable(func(v *api.Var) { v.Len = n })...)
		}
	}
	for _, n := range []int{-1, 2, 1 << 40, -1 << 63} {
		wrong = append(wrong, func(s *api.Symbols) { s.Vars[0].Module = n }, func(s *api.Symbols) { s.Vars[len(s.Vars)-1].Module = n }, func(s *api.Symbols) { s.Locks[0].Module = n },
			func(s *api.Symbols) { s.Locks[2].Module = n }, func(s *api.Symbols) { s.Procs[0].Module = n }, func(s *api.Symbols) { s.Procs[1].Module = n })
		right = append(right, func(s *api.Symbols) { s.Procs[1].Params[0].Module = n }, func(s *api.Symbols) { s.Threads[0].Proc = n }, func(s *api.Symbols) { s.Vars[0].Init = n }, func(s *api.Symbols) { s.Procs[0].Calls = []int{n} })
	}
	right = append(right, variable(func(v *api.Var) { v.W, v.Len = 8, 8 })...)
	right = append(right, variable(func(v *api.Var) { v.W, v.Len = 1, 1 })...)
	e := api.Node{Kind: api.NodeNumber, At: 5}
	for i, change := range append(wrong, right...) {
		s := collected(t, bank)
		change(&s)
		check := agreeOnCheck(t, s)
		width, diags := agreeOnWidth(t, s, 1, -1, e, 2)
		if i < len(wrong) && (width != 0 || text(check) != text([]api.Diag{{Err: api.ErrArg}}) || text(diags) != text([]api.Diag{{Err: api.ErrArg, At: 5}})) {
			t.Errorf("%d: %v, %d %v", i, check, width, diags)
		}
		if i >= len(wrong) && (width != 2 || len(check)+len(diags) != 0) {
			t.Errorf("%d: %v, %d %v", i, check, width, diags)
		}
	}
	if diags := typing.Check(api.Symbols{}); len(diags) != 0 {
		t.Error(diags)
	}
}
