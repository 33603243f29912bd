package typing_test

import (
	"slices"
	"strings"
	"testing"

	"relyguard/api"
	"relyguard/typing"
)

// P5.1: statements and expressions without kids, whose missing parts are reported at 0.
func TestMissingKids(t *testing.T) {
	const at, zero = 9, 0
	for kind, want := range map[int][]api.Diag{
		api.NodeBlock: nil, api.NodeAssign: nil, api.NodeAtomic: nil, api.NodeFence: nil, api.NodeSkip: nil, api.NodeLocal: nil, api.NodeNone: nil,
		api.NodeAssert: {{Err: api.ErrPlace, At: zero}}, api.NodeAwait: {{Err: api.ErrPlace, At: zero}},
		api.NodeIf: {{Err: api.ErrPlace, At: zero}}, api.NodeWhile: {{Err: api.ErrPlace, At: zero}},
		api.NodeCas:  {{Err: api.ErrPlace, At: zero}, {Err: api.ErrPlace, At: zero}, {Err: api.ErrPlace, At: zero}, {Err: api.ErrPlace, At: zero}},
		api.NodeCall: {{Err: api.ErrName, At: at}}, api.NodeAcquire: {{Err: api.ErrName, At: at}}, api.NodeFree: {{Err: api.ErrName, At: at}}, api.NodeSpawn: {{Err: api.ErrName, At: at}}, api.NodeJoin: {{Err: api.ErrName, At: at}},
		api.NodeNumber: {{Err: api.ErrPlace, At: at}}, api.NodeRef: {{Err: api.ErrPlace, At: at}}, api.NodeParam: {{Err: api.ErrPlace, At: at}}, api.NodeSource: {{Err: api.ErrPlace, At: at}}, 0: {{Err: api.ErrPlace, At: at}},
	} {
		s := collected(t, bank)
		s.Procs[0].Body = api.Node{Kind: kind, At: at}
		if diags := agreeOnCheck(t, s); text(diags) != text(want) {
			t.Errorf("statement %d: %v", kind, diags)
		}
	}
	s := collected(t, bank)
	place := api.Diag{Err: api.ErrPlace, At: zero}
	for _, x := range []struct {
		n     api.Node
		width int
		want  []api.Diag
	}{
		{api.Node{Kind: api.NodeNumber}, 1, nil}, {api.Node{Kind: api.NodeRef, Name: "x"}, 3, nil}, {api.Node{Kind: api.NodeNot}, 1, []api.Diag{place}},
		{api.Node{Kind: api.NodeOld}, 1, []api.Diag{{Err: api.ErrPlace, At: at}, place}}, {api.Node{Kind: api.NodeCond}, 1, []api.Diag{place, place, place}},
		{api.Node{Kind: api.NodeBinary, Name: "+"}, 1, []api.Diag{place, place}}, {api.Node{Kind: api.NodeBinary, Name: "=="}, 1, []api.Diag{place, place}}, {api.Node{Kind: api.NodeBinary, Name: "&&"}, 1, []api.Diag{place, place}},
		{api.Node{Kind: api.NodeBinary}, 1, []api.Diag{{Err: api.ErrPlace, At: at}}}, {api.Node{Kind: api.NodeAll}, 1, []api.Diag{place}}, {api.Node{Kind: api.NodeSome, N: 9}, 1, []api.Diag{{Err: api.ErrLimit, At: at}, place}},
		{api.Node{}, 1, []api.Diag{{Err: api.ErrPlace, At: at}}}, {api.Node{Kind: api.NodeNone}, 1, []api.Diag{{Err: api.ErrPlace, At: at}}}, {api.Node{Kind: api.NodeBlock}, 1, []api.Diag{{Err: api.ErrPlace, At: at}}},
	} {
		x.n.At = at
		if width, diags := agreeOnWidth(t, s, 0, -1, x.n, 0); width != x.width || text(diags) != text(x.want) {
			t.Errorf("%+v: %d %v", x.n, width, diags)
		}
	}
}

// P5.1: kids beyond those that are mentioned, and fields that no node of a kind has, are ignored.
func TestIgnoredParts(t *testing.T) {
	s := collected(t, bank)
	wrong := api.Node{Kind: api.NodeSkip, At: 77}
	for _, source := range []string{"x", "v[1]", "old(x)", "!x", "x + 1", "x == 1", "y && y", "y ? x : 1", "all i < 2 : y", "7", "v[1] == 3"} {
		e := parsed(t, source)
		width, _ := agreeOnWidth(t, s, 0, -1, e, 0)
		for _, n := range nodes(&e) {
			n.Other, n.Len, n.Init, n.Ghost = "nothing", 99, -1, true
			if n.Kind != api.NodeRef || len(n.Kids) > 0 {
				n.Kids = append(n.Kids, wrong)
			}
		}
		if again, diags := agreeOnWidth(t, s, 0, -1, e, 0); again != width || len(diags) != 0 {
			t.Errorf("%s: %d %v", source, again, diags)
		}
	}
	s = collected(t, strings.Replace(bank, "local h : 5;", "local h : 5; assert y; await y; acquire m; free m; fence; spawn t; join t; skip; if y { } while y { } local c : 1;", 1))
	for i, statement := range s.Procs[0].Body.Kids {
		s.Procs[0].Body.Kids[i].Kids = append(slices.Clone(statement.Kids), wrong)
	}
	if diags := agreeOnCheck(t, s); len(diags) != 0 {
		t.Error(diags)
	}
}

// P5.1: assignments whose targets are no references, and ones without a value.
func TestUnusualTargets(t *testing.T) {
	x, l, number, far := api.Node{Kind: api.NodeRef, Name: "x", At: 1}, api.Node{Kind: api.NodeRef, Name: "l", At: 2}, api.Node{Kind: api.NodeNumber, N: 3, At: 3}, api.Node{Kind: api.NodeNumber, N: 256, At: 4}
	old := api.Node{Kind: api.NodeOld, Kids: []api.Node{x}, At: 5}
	none := api.Node{Kind: api.NodeNone, At: 6}
	for _, c := range []struct {
		kids []api.Node
		want []api.Diag
	}{
		{nil, nil}, {[]api.Node{x}, []api.Diag{{Err: api.ErrPlace}}}, {[]api.Node{number}, []api.Diag{{Err: api.ErrPlace, At: 3}, {Err: api.ErrPlace}}}, {[]api.Node{x, number, l}, []api.Diag{{Err: api.ErrPlace}}},
		{[]api.Node{number, x}, []api.Diag{{Err: api.ErrPlace, At: 3}}}, {[]api.Node{number, far}, []api.Diag{{Err: api.ErrPlace, At: 3}, {Err: api.ErrWidth, At: 4}}}, {[]api.Node{old, number}, []api.Diag{{Err: api.ErrPlace, At: 5}}},
		{[]api.Node{none, l}, []api.Diag{{Err: api.ErrPlace, At: 6}}}, {[]api.Node{x, none}, []api.Diag{{Err: api.ErrPlace, At: 6}}}, {[]api.Node{old, none, l, number}, []api.Diag{{Err: api.ErrPlace, At: 5}, {Err: api.ErrPlace, At: 6}}},
	} {
		for _, head := range []struct {
			kind int
			kids []api.Node
		}{{api.NodeAssign, nil}, {api.NodeAtomic, []api.Node{none}}, {api.NodeCas, []api.Node{x, number, number, {Kind: api.NodeRef, Name: "p"}}}} {
			s := collected(t, bank)
			s.Procs[0].Body = api.Node{Kind: head.kind, At: 8, Kids: slices.Concat(head.kids, c.kids)}
			if diags := agreeOnCheck(t, s); text(diags) != text(c.want) {
				t.Errorf("%d with %v: %v", head.kind, c.kids, diags)
			}
		}
	}
	s := collected(t, bank)
	s.Procs[0].Body = api.Node{Kind: api.NodeCas, Kids: []api.Node{old, far, x, number}}
	if diags := agreeOnCheck(t, s); text(diags) != text([]api.Diag{{Err: api.ErrPlace, At: 5}, {Err: api.ErrWidth, At: 4}, {Err: api.ErrPlace, At: 3}}) {
		t.Error(diags)
	}
}

const everything = `module M owner A {
	shared x : 3; shared v[2] : 2; shared y : 1; lock m invariant y || x == 2;
	rely all i < 2 : old(v[i]) <= v[i]; guarantee y ? x == 1 : !y; frame x, v;
	proc p(a : 1) locked m {
		local r : 3; assert r == x; x := r + 1 with y := a; atomic { x := x + 1, v[1] := 0 } when v[0] < 2; cas x, 0, 1 into a with y := 0; acquire m; free m; fence; spawn t; join t; await y; skip;
		if y { call q(1, r); } else { x := 0; } while y variant x { y := 0; }
	}
	proc q(b : 1, c : 3) { }
}
thread t = M.p(1);`

// P5.1: a node of each kind in the place of each node, and each number of kids.
func TestNodesOfAllKinds(t *testing.T) {
	s := collected(t, everything)
	if diags := agreeOnCheck(t, s); len(diags) != 0 {
		t.Fatal(diags)
	}
	count := 0
	for _, tree := range trees(&s) {
		count += len(nodes(tree))
	}
	for i := range count {
		for kind := -1; kind <= 64; kind++ {
			other := twins(s)
			nth(other, i).Kind = kind
			agreeOnCheck(t, other)
		}
		for kids := range len(nth(s, i).Kids) + 1 {
			other := twins(s)
			n := nth(other, i)
			n.Kids = n.Kids[:kids]
			agreeOnCheck(t, other)
			n.Kids = append(n.Kids, api.Node{Kind: api.NodeRef, Name: "x", At: 99999})
			agreeOnCheck(t, other)
		}
	}
}

// nth returns a node of the trees of symbols.
func nth(s api.Symbols, i int) *api.Node {
	for _, tree := range trees(&s) {
		list := nodes(tree)
		if i < len(list) {
			return list[i]
		}
		i -= len(list)
	}
	return nil
}

// P5.1: operators that there are not.
func TestOtherOperators(t *testing.T) {
	s := collected(t, bank)
	for _, name := range []string{"", ">", ">=", "=", "=>", "!", "and", "&&&", "===", "/", "%", "<<", " +", "+ ", "x"} {
		e := parsed(t, "nothing + z")
		e.Name = name
		for want, width := range map[int]int{0: 1, 5: 5} {
			if got, diags := agreeOnWidth(t, s, 0, -1, e, want); got != width || text(diags) != text([]api.Diag{{Err: api.ErrPlace, At: 8}}) {
				t.Errorf("%q: %d %v", name, got, diags)
			}
		}
	}
}

// P5.1: nothing is reported after the last diagnostic.
func TestManyReports(t *testing.T) {
	s := collected(t, bank)
	for wrong := 18; wrong < 30; wrong++ {
		sum := strings.Repeat("nothing + ", wrong-1) + "nothing"
		e := parsed(t, sum)
		width, diags := agreeOnWidth(t, s, 0, -1, e, 3)
		if width != 3 || len(diags) != min(wrong, 20) || diags[len(diags)-1].At != 10*(len(diags)-1) {
			t.Errorf("%d: %d %v", wrong, width, diags)
		}
		if check := agreeOnCheck(t, collected(t, strings.Replace(bank, "local h : 5;", "local h : 5; x := "+sum+";", 1))); len(check) != min(wrong, 20) {
			t.Errorf("%d: %v", wrong, check)
		}
		if again, _ := typing.Width(s, 0, -1, parsed(t, "1"), 0); again != 1 {
			t.Error(again)
		}
	}
}
