package resolve_test

import (
	"fmt"
	"regexp"
	"slices"
	"strconv"
	"strings"
	"testing"

	"relyguard/api"
	"relyguard/parser"
	"relyguard/resolve"
)

// mark stands before the node of a report, with the position of the report and the letter of its error.
var mark = regexp.MustCompile(`#(\d+)([A-Z]) ?`)

var letters = map[string]api.Errno{"T": api.ErrTwice, "L": api.ErrLimit, "N": api.ErrName, "C": api.ErrCall, "W": api.ErrWidth, "Y": api.ErrCycle}

// unmark returns a source without its marks, and the reports that these announce.
func unmark(t *testing.T, marked string) (string, []api.Diag) {
	t.Helper()
	source := ""
	found := map[int]api.Diag{}
	for {
		at := mark.FindStringSubmatchIndex(marked)
		if at == nil {
			break
		}
		source += marked[:at[0]]
		i, _ := strconv.Atoi(marked[at[2]:at[3]])
		found[i] = api.Diag{Err: letters[marked[at[4]:at[5]]], At: len(source)}
		marked = marked[at[1]:]
	}
	var diags []api.Diag
	for i := range len(found) {
		diags = append(diags, found[i+1])
	}
	return source + marked, diags
}

// collected returns the declarations of a source that has the marked reports.
func collected(t *testing.T, marked string) api.Symbols {
	t.Helper()
	source, want := unmark(t, marked)
	tree, wrong := parser.Parse(source)
	if len(wrong) > 0 {
		t.Fatalf("%s: %v", source, wrong)
	}
	s, diags := agree(t, tree)
	if text(diags) != text(want) {
		t.Errorf("%s: %v, want %v", marked, diags, want)
	}
	return s
}

// variables writes variables as name:width, [elements] and =initial value unless they are 0, and ! for ghosts.
func variables(list []api.Var) string {
	var words []string
	for _, v := range list {
		word := fmt.Sprintf("%s:%d", v.Name, v.W)
		if v.Len != 0 {
			word += fmt.Sprintf("[%d]", v.Len)
		}
		if v.Init != 0 {
			word += fmt.Sprintf("=%d", v.Init)
		}
		if v.Ghost {
			word += "!"
		}
		words = append(words, word)
	}
	return strings.Join(words, " ")
}

// summary writes what symbols declare, without offsets and trees.
func summary(s api.Symbols) string {
	var lines []string
	for i, m := range s.Modules {
		lines = append(lines, fmt.Sprintf("module %s of %s", m.Name, m.Owner))
		mine := slices.DeleteFunc(slices.Clone(s.Vars), func(v api.Var) bool { return v.Module != i })
		if len(mine) > 0 {
			lines = append(lines, variables(mine))
		}
		for _, l := range s.Locks {
			if l.Module == i {
				lines = append(lines, "lock "+l.Name)
			}
		}
		for _, p := range s.Procs {
			if p.Module == i {
				lines = append(lines, strings.TrimSpace(fmt.Sprintf("proc %s(%s) %s {%s} %v", p.Name, variables(p.Params), p.Locked, variables(p.Locals), p.Calls)))
			}
		}
	}
	for _, x := range s.Threads {
		lines = append(lines, fmt.Sprintf("thread %s = %d%v %t", x.Name, x.Proc, x.Args, x.Asleep))
	}
	return strings.Join(lines, "; ")
}

type example struct{ source, want string }

func check(t *testing.T, list []example) {
	t.Helper()
	for _, x := range list {
		if got := summary(collected(t, x.source)); got != x.want {
			t.Errorf("%s:\n%s, want\n%s", x.source, got, x.want)
		}
	}
}

// P4.1: the examples of the chapter.
func TestChapterExamples(t *testing.T) {
	check(t, []example{
		{"module M owner A { #1W shared x : 2 = 5; }", "module M of A"},
		{"module M owner A { record r { a : 3; b : 2; } shared v[2] : r = 1; }", "module M of A; v.a:3[2]=1 v.b:2[2]=1"},
		{"module M owner A { #1Y proc p() { call q(); } #2Y proc q() { call M.p(); } }", "module M of A; proc p()  {} [1]; proc q()  {} [0]"},
	})
}

// P4.1: pass 1.
func TestModules(t *testing.T) {
	check(t, []example{
		{"", ""},
		{"module M owner A { } module N owner A { } module O owner B { }", "module M of A; module N of A; module O of B"},
		{"module M owner A { shared x : 1; } #1T module M owner B { shared y : 1; shared y : 1; rely 1; rely 1; proc p() { } }", "module M of A; x:1"},
	})
	s := collected(t, "module A owner Z { } module B owner Z { } #1T module A owner Y { } module C owner Z { } module D owner Z { } module E owner Z { } module F owner Z { } "+
		"#2L module G owner Z { shared x : 0; } #3T module F owner Y { } #4L module G owner Z { }")
	if got := summary(s); got != "module A of Z; module B of Z; module C of Z; module D of Z; module E of Z; module F of Z" {
		t.Error(got)
	}
}

// P4.1: the contract of a module consists of the first parts of each kind.
func TestContracts(t *testing.T) {
	s := collected(t, "module M owner A { frame x, N.y; guarantee x == 1; shared x : 1; #1T frame x; rely x == 2; #2T rely x == 3; #3T guarantee x == 4; #4T rely x == 5; #5T frame y; } "+
		"module N owner B { shared y : 1; rely y == 6; #6T rely y; } module O owner C { frame O.z; }")
	number := func(n api.Node) int { return n.Kids[1].N }
	m := s.Modules[0]
	if number(m.Rely) != 2 || number(m.Guar) != 1 || len(m.Frame) != 2 || m.Frame[0].Name != "x" || m.Frame[1].Name != "N.y" {
		t.Errorf("%+v", m)
	}
	if n := s.Modules[1]; number(n.Rely) != 6 || text(n.Guar) != text(none) || len(n.Frame) != 0 {
		t.Errorf("%+v", n)
	}
	if o := s.Modules[2]; text(o.Rely) != text(none) || text(o.Guar) != text(none) || len(o.Frame) != 1 || o.At <= s.Modules[1].At {
		t.Errorf("%+v", o)
	}
}

// P4.1: pass 2, records and shared variables.
func TestSharedVariables(t *testing.T) {
	check(t, []example{
		{"module M owner A { shared x : 1; ghost shared y[8] : 8 = 255; shared z[1] : 3 = 7; }", "module M of A; x:1 y:8[8]=255! z:3[1]=7"},
		{"module M owner A { #1W shared a : 0; #2W shared b : 9; #3L shared c[9] : 1; #4L shared d[999999999] : 0; #5W shared e : 1 = 2; #6W shared f : 8 = 256; #7W shared g : 0 = 1; }", "module M of A"},
		{"module M owner A { #1W shared x : 9; shared x : 2; #2T shared x : 9; #3T record x { a : 9; } #4T lock x invariant 1; #5T proc x(a : 9) { } }", "module M of A; x:2"},
		{"module M owner A { #1W shared x : 9; #2L shared x[9] : 1; #3N shared x : r; #4W shared x : 1 = 2; lock x invariant 1; #5T shared x : 1; }", "module M of A; lock x"},
		{"module M owner A { #1N shared x : r; record r { a : 1; } shared y : r; #2N shared z : y; #3N shared u : M; } module N owner A { #4N shared x : r; #5N shared y : M; }", "module M of A; y.a:1; module N of A"},
		{"module M owner A { record r { a : 1; } shared x : r; } module N owner A { record r { b : 2; } shared x : r; }", "module M of A; x.a:1; module N of A; x.b:2"},
		{"module M owner A { record r { a : 2; #1T a : 3; #2W b : 9; b : 4; #3W c : 0; #4T a : 0; d : 8; } shared x : r; ghost shared y[3] : r = 3; }", "module M of A; x.a:2 x.b:4 x.d:8 y.a:2[3]=3! y.b:4[3]=3! y.d:8[3]=3!"},
		{"module M owner A { record r { a : 2; b : 1; c : 3; } #1W shared x : r = 2; shared x : r = 1; #2L shared y[9] : r = 9; #3L shared z[9] : s; }", "module M of A; x.a:2=1 x.b:1=1 x.c:3=1"},
		{"module M owner A { record r { } record s { #1W a : 9; } shared x : r = 999999999; shared y[8] : s = 256; #2T shared x : 1; #3T shared y : 1; #4T lock r invariant 1; }", "module M of A"},
		{"module M owner A { record r { a : 1; } #1T record r { b : 1; c : 9; } #2T shared r : 1; shared x : r; #3T proc x() { } #4T record x { } }", "module M of A; x.a:1"},
		{"module M owner A { record r { b : 1; r : 2; x : 3; } shared x : r; shared b : 4; }", "module M of A; x.b:1 x.r:2 x.x:3 b:4"},
	})
}

// P4.1: pass 2, locks and procedures.
func TestLocksAndProcedures(t *testing.T) {
	check(t, []example{
		{"module M owner A { lock a invariant 1; #1T lock a invariant 2; lock b invariant 1; } module N owner A { lock a invariant 1; #2T shared a : 1; lock c invariant 1; #3L lock d invariant 1; #4T lock c invariant 1; shared d : 1; #5T lock d invariant 1; }",
			"module M of A; lock a; lock b; module N of A; d:1; lock a; lock c"},
		{"module M owner A { lock l invariant 1; proc p(a : 1, b : 8) locked l { local c : 2; ghost local d : 3; } proc q() { } #1T proc p() { local x : 0; } #2T shared q : 1; #3T lock p invariant 1; }",
			"module M of A; lock l; proc p(a:1 b:8) l {c:2 d:3!} []; proc q()  {} []"},
		{"module M owner A { proc p(a : 1, #1T a : 2, #2W b : 0, b : 3, #3W c : 9, #4T b : 9) { #5T local a : 1; local c : 4; #6T ghost local c : 9; #7W local d : 9; ghost local d : 5; } }",
			"module M of A; proc p(a:1 b:3)  {c:4 d:5!} []"},
		{"module M owner A { proc p() { local a : 1; if 1 { local b : 2; #1T local a : 3; while 1 { local c : 4; #2W local d : 0; } local e : 5; } else { local d : 6; #3T local b : 7; } local f : 8; } proc q(d : 1) { local a : 2; } }",
			"module M of A; proc p()  {a:1 b:2 c:4 e:5 d:6 f:8} []; proc q(d:1)  {a:2} []"},
		{"module M owner A { shared x : 1; proc p(x : 2, M : 3, p : 4) { local y : 5; } }", "module M of A; x:1; proc p(x:2 M:3 p:4)  {y:5} []"},
	})
	s := collected(t, "module M owner A { lock l invariant x == 3; proc p() { skip; fence; } } module N owner A { lock l invariant y == 4; proc p() { } }")
	if inv := s.Locks[1].Inv; inv.Name != "==" || inv.Kids[0].Name != "y" || s.Locks[0].Inv.Kids[1].N != 3 || s.Locks[1].Module != 1 {
		t.Errorf("%+v", s.Locks)
	}
	if body := s.Procs[0].Body; body.Kind != api.NodeBlock || len(body.Kids) != 2 || body.Kids[1].Kind != api.NodeFence || s.Procs[1].Module != 1 {
		t.Errorf("%+v", s.Procs)
	}
}

// P4.1: pass 3.
func TestThreads(t *testing.T) {
	module := "module M owner A { proc p() { } proc q(a : 1, b : 3) { } proc r(#1W c : 9, d : 8) { } } "
	procs := "module M of A; proc p()  {} []; proc q(a:1 b:3)  {} []; proc r(d:8)  {} []; "
	for _, x := range []example{
		{"thread t = M.p(); asleep thread u = M.q(1, 7); thread v = M.r(255);", "thread t = 0[] false; thread u = 1[1 7] true; thread v = 2[255] false"},
		{"#2N thread t = p(); #3N thread t = N.p(); #4N thread t = M.x(); #5N thread t = M.p.p(); #6N thread t = M(); thread t = M.p(); #7T thread t = M.x(1);", "thread t = 0[] false"},
		{"#2C thread t = M.p(0); #3C thread t = M.q(1); #4C thread t = M.q(1, 2, 3); #5C thread t = M.r(1, 2); thread t = M.r(0);", "thread t = 2[0] false"},
		{"thread t = M.q(0, 0); thread u = M.q(1, 3); thread v = M.q(#2W 2, 8); thread v = M.q(1, #3W 8); thread v = M.r(#4W 256); asleep thread v = M.p();", "thread t = 1[0 0] false; thread u = 1[1 3] false; thread v = 0[] true"},
		{"thread a = M.p(); thread b = M.p(); #2T thread b = M.q(); thread c = M.p(); thread d = M.p(); #3L thread e = M.x(); #4T thread a = M.p(); #5L thread e = M.p();",
			"thread a = 0[] false; thread b = 0[] false; thread c = 0[] false; thread d = 0[] false"},
	} {
		check(t, []example{{module + x.source, procs + x.want}})
		check(t, []example{{x.source + module, procs + x.want}})
	}
}

// P4.1: pass 4.
func TestBodies(t *testing.T) {
	check(t, []example{
		{"module M owner A { lock l invariant 1; proc p() locked l { } #1N proc q() locked m { } #2N proc r() locked x { } shared x : 1; #3N proc s() locked M { } } module N owner A { #4N proc p() locked l { } proc q() locked m { } lock m invariant 1; }",
			"module M of A; x:1; lock l; proc p() l {} []; proc q() m {} []; proc r() x {} []; proc s() M {} []; module N of A; lock m; proc p() l {} []; proc q() m {} []"},
		{"module M owner A { proc d() { call N.a(1, 2); call c(); call nothing(); call M.b(); call c(); if 1 { call e(); } else { while 1 { call b(); } } call N.N.a(); call x.b(); } proc c() { } proc b() { } proc e() { } shared x : 1; } module N owner A { proc a() { } proc c() { call a(); call M.c(); call b(); } }",
			"module M of A; x:1; proc d()  {} [1 2 3 4]; proc c()  {} []; proc b()  {} []; proc e()  {} []; module N of A; proc a()  {} []; proc c()  {} [1 4]"},
		{"module M owner A { #1Y proc p() { call p(); } #2Y proc q() { call r(); } #3Y proc r() { call N.s(); call p(); } proc t() { call q(); call u(); } proc u() { } } module N owner A { #4Y proc s() { call M.q(); } proc p() { call M.p(); } }",
			"module M of A; proc p()  {} [0]; proc q()  {} [2]; proc r()  {} [0 5]; proc t()  {} [1 4]; proc u()  {} []; module N of A; proc s()  {} [1]; proc p()  {} [0]"},
	})
}

// P4.1: the reports come in the order of the passes.
func TestOrderOfReports(t *testing.T) {
	collected(t, "#6N thread t = M.q(); module M owner A { #3W shared x : 9; proc p() locked k { #4W local r : 9; } rely 1; #1T rely 1; lock k invariant 1; #8Y proc r() { call r(); } #7N proc s() locked x { } } #2T module M owner B { } module N owner A { #5W shared x : 9; }")
}

// P4.1: nothing is reported after the last diagnostic, and everything else goes on.
func TestManyReports(t *testing.T) {
	for wrong := 18; wrong < 23; wrong++ {
		source := "module M owner A { " + strings.Repeat("shared x : 9; ", wrong) + "shared y : 1; shared y : 1; proc p() locked k { call p(); } } module M owner A { shared z : 1; } thread t = M.p(); thread u = M.q();"
		tree, _ := parser.Parse(source)
		s, diags := agree(t, tree)
		if len(diags) != api.MaxDiags || summary(s) != "module M of A; y:1; proc p() k {} [0]; thread t = 0[] false" {
			t.Errorf("%d: %v, %s", wrong, diags, summary(s))
		}
	}
}

// P4.1: trees of other kinds have no declarations and no diagnostics.
func TestOtherTops(t *testing.T) {
	tree, _ := parser.Parse("module M owner A { shared x : 9; shared y : 1; } thread t = M.p();")
	for kind := -2; kind < 70; kind++ {
		n := tree
		n.Kind = kind
		if s, diags := resolve.Collect(n); kind != api.NodeSource && (text(s) != text(api.Symbols{}) || len(diags) != 0) {
			t.Errorf("%d: %+v %v", kind, s, diags)
		}
	}
	if s, diags := resolve.Collect(tree); len(s.Vars) != 1 || len(diags) != 2 {
		t.Errorf("%+v %v", s, diags)
	}
}

// P4.1: parts that are missing, or of kinds that no source has in their place.
func TestUnusualTrees(t *testing.T) {
	skip := api.Node{Kind: api.NodeSkip, Name: "s", At: 7}
	local := api.Node{Kind: api.NodeLocal, Name: "v", N: 2, At: 8}
	param := api.Node{Kind: api.NodeParam, Name: "a", N: 2, Ghost: true, At: 9, Len: 5, Init: 6}
	s, diags := agree(t, api.Node{Kind: api.NodeSource, Kids: []api.Node{skip, local, {Kind: api.NodeModule, Kids: []api.Node{
		skip, local, param, {Kind: api.NodeRely}, {Kind: api.NodeRely, Kids: []api.Node{skip}, At: 1}, {Kind: api.NodeGuar, Kids: []api.Node{skip, local}},
		{Kind: api.NodeFrame, Kids: []api.Node{skip, {Kind: api.NodeRef, Name: "x", Kids: []api.Node{skip}}, local, {Kind: api.NodeRef}}},
		{Kind: api.NodeLock, N: 9}, {Kind: api.NodeRecord, Name: "r", Kids: []api.Node{skip, local, {Kind: api.NodeField, Name: "f", N: 3, Ghost: true}}},
		{Kind: api.NodeShared, Name: "x", Other: "r", N: 77, At: 2}, {Kind: api.NodeShared, Name: "y", N: 1, Len: -1, At: 3}, {Kind: api.NodeShared, Name: "y", N: -1, At: 4},
		{Kind: api.NodeShared, Name: "y", N: 1, Init: -1, At: 5},
		{Kind: api.NodeProc, Name: "p", Kids: []api.Node{skip, param, local}},
		{Kind: api.NodeProc, Name: "q", Kids: []api.Node{{Kind: api.NodeBlock, Kids: []api.Node{skip, {Kind: api.NodeAssert, Kids: []api.Node{local}}, param}}, param, {Kind: api.NodeBlock, Kids: []api.Node{{Kind: api.NodeCall, Name: "p"}}}}},
	}}, {Kind: api.NodeThread, Other: ".p", Kids: []api.Node{{Kind: api.NodeNumber, N: 3}}}, {Kind: api.NodeThread, Name: "t", Other: ".p", Kids: []api.Node{{Kind: api.NodeRef, N: 3, At: 6}}}}})
	if text(diags) != "[{Err:relyguard: error 41 At:1} {Err:relyguard: error 2 At:3} {Err:relyguard: error 50 At:4} {Err:relyguard: error 50 At:5} {Err:relyguard: error 50 At:6}]" {
		t.Error(diags)
	}
	m := s.Modules[0]
	if text(m.Rely) != text(none) || text(m.Guar) != text(skip) || len(m.Frame) != 2 || text(m.Frame[0].Kids) != text([]api.Node{skip}) || text(s.Locks[0].Inv) != text(none) {
		t.Errorf("%+v %+v", m, s.Locks)
	}
	if got := summary(s); got != "module  of ; x.f:3; lock ; proc p(a:2!)  {} []; proc q(a:2!)  {v:2} []; thread  = 0[3] false" || text(s.Procs[0].Body) != text(none) {
		t.Error(got)
	}
}
