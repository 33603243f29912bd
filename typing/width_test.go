package typing_test

import (
	"regexp"
	"strconv"
	"testing"

	"relyguard/api"
	"relyguard/parser"
	"relyguard/resolve"
	"relyguard/typing"
)

// mark stands before the token at which something is reported, with the position of the report and the letter of its error.
var mark = regexp.MustCompile(`#(\d+)([A-Z]) ?`)

var letters = map[string]api.Errno{"A": api.ErrArg, "L": api.ErrLimit, "N": api.ErrName, "C": api.ErrCall, "P": api.ErrPlace, "W": api.ErrWidth, "I": api.ErrIndex}

// unmark returns a text without its marks, and the reports that these announce.
func unmark(marked string) (string, []api.Diag) {
	source := ""
	found := map[int]api.Diag{}
	for {
		at := mark.FindStringSubmatchIndex(marked)
		if at == nil {
			break
		}
		source += marked[:at[0]]
		i, _ := strconv.Atoi(marked[at[2]:at[3]])
		found[i] = api.Diag{Err: letters[marked[at[4]:at[5]]], At: len(source)}
		marked = marked[at[1]:]
	}
	var diags []api.Diag
	for i := range len(found) {
		diags = append(diags, found[i+1])
	}
	return source + marked, diags
}

// bank has the module M of the chapter's examples (0), whose procedure f (0) has the parameter p, with other declarations; and the module N (1) with the procedure g (1), both with the lock m. Its threads are t and u.
const bank = `module M owner A {
	record r { a : 3; b : 1; }
	shared x : 3; shared v[2] : 2; shared y : 1; shared z : 8; shared q[8] : 4; shared e : r; shared h[3] : r;
	lock m invariant 1;
	proc f(p : 1, k : 3, z : 2) { local l : 2; local h : 5; }
}
module N owner B {
	shared x : 5; shared v : 2; shared w[3] : 1; shared y : 4;
	lock n invariant 1; lock m invariant 1;
	proc g(a : 2, b : 7) { }
}
thread t = N.g(1, 2);
asleep thread u = N.g(1, 2);`

// collected returns the declarations of a source without diagnostics.
func collected(t *testing.T, source string) api.Symbols {
	t.Helper()
	tree, wrong := parser.Parse(source)
	s, diags := resolve.Collect(tree)
	if len(wrong)+len(diags) > 0 {
		t.Fatalf("%s: %v %v", source, wrong, diags)
	}
	return s
}

func parsed(t *testing.T, source string) api.Node {
	t.Helper()
	e, wrong := parser.ParseExpr(source)
	if len(wrong) > 0 {
		t.Fatalf("%s: %v", source, wrong)
	}
	return e
}

// sample is an expression with marks, and its width for a requirement.
type sample struct {
	source      string
	want, width int
}

// checkWidths checks samples in a procedure of a module.
func checkWidths(t *testing.T, module, proc int, list []sample) {
	t.Helper()
	s := collected(t, bank)
	for _, x := range list {
		source, want := unmark(x.source)
		width, diags := agreeOnWidth(t, s, module, proc, parsed(t, source), x.want)
		if width != x.width || text(diags) != text(want) {
			t.Errorf("%s for %d: %d %v, want %d %v", x.source, x.want, width, diags, x.width, want)
		}
	}
}

// P5.1: the examples of the chapter.
func TestChapterExamples(t *testing.T) {
	checkWidths(t, 0, 0, []sample{
		{"x + 1", 0, 3}, {"1 + 2", 0, 2}, {"x == #1W 9", 0, 1},
		{"v[p]", 0, 2}, {"v[#1I 2]", 0, 2}, {"#1I v", 0, 2}, {"#1I x[0]", 0, 3},
		{"all i < 2 : v[i] <= i", 0, 1}, {"all i < 3 : v[#1I i] <= i", 0, 1}, {"#1P old(x) <= x", 0, 1},
	})
	checkWidths(t, 0, -1, []sample{{"old(x) <= x", 0, 1}})
}

// P5.1: numbers.
func TestNumbers(t *testing.T) {
	checkWidths(t, 0, -1, []sample{
		{"0", 0, 1}, {"1", 0, 1}, {"2", 0, 2}, {"3", 0, 2}, {"4", 0, 3}, {"7", 0, 3}, {"8", 0, 4}, {"255", 0, 8}, {"#1W 256", 0, 8}, {"#1W 999999999", 0, 8},
		{"0", 1, 1}, {"1", 1, 1}, {"#1W 2", 1, 1}, {"3", 2, 2}, {"#1W 4", 2, 2}, {"0", 8, 8}, {"255", 8, 8}, {"#1W 256", 8, 8}, {"#1W 128", 7, 7}, {"127", 7, 7},
	})
	s := collected(t, bank)
	for _, x := range []struct{ n, width, reports int }{{-1, 1, 1}, {-1 << 63, 1, 1}, {1<<63 - 1, 8, 1}, {1 << 62, 8, 1}, {1 << 8, 8, 1}, {1<<8 - 1, 8, 0}} {
		width, diags := agreeOnWidth(t, s, 0, -1, api.Node{Kind: api.NodeNumber, N: x.n, At: 4, Kids: []api.Node{{Kind: api.NodeSkip}}}, 0)
		if width != x.width || len(diags) != x.reports {
			t.Error(x, width, diags)
		}
	}
}

// P5.1: references outside of procedures.
func TestReferences(t *testing.T) {
	checkWidths(t, 0, -1, []sample{
		{"x", 0, 3}, {"x", 3, 3}, {"#1W x", 2, 2}, {"#1W x", 4, 4}, {"M.x", 0, 3}, {"N.x", 0, 5}, {"e.a", 0, 3}, {"M.e.b", 0, 1}, {"h.a[2]", 0, 3}, {"#1I h.b", 0, 1},
		{"#1N nothing", 0, 1}, {"#1N nothing", 5, 5}, {"#1N e", 0, 1}, {"#1N p", 0, 1}, {"#1N N.e.a", 0, 1}, {"#1N M", 0, 1}, {"#1N nothing[#2N nothing]", 0, 1}, {"#1N nothing[9]", 2, 2}, {"#1N nothing[#2W 256]", 0, 1},
		{"#1I x[0]", 0, 3}, {"#1I x[0]", 2, 2}, {"#1I x[255]", 0, 3}, {"#1I x[#2W 256]", 0, 3}, {"#1I x[#2I v]", 0, 3}, {"#1I x[v[#2I 2]]", 0, 3}, {"#1I N.v[1]", 0, 2},
		{"#1I v", 0, 2}, {"#1I v", 1, 1}, {"v[0]", 0, 2}, {"v[1]", 2, 2}, {"v[#1I 2]", 0, 2}, {"#1W v[#2I 2]", 3, 3}, {"#1W v[#2I 999]", 1, 1}, {"q[7]", 0, 4}, {"q[#1I 8]", 0, 4}, {"N.w[2]", 0, 1}, {"N.w[#1I 3]", 0, 1},
		{"v[x]", 0, 2}, {"v[z]", 0, 2}, {"v[1 + 8]", 0, 2}, {"v[#1W 256 + 8]", 0, 2}, {"v[x + #1W 8]", 0, 2}, {"v[!2]", 0, 2}, {"v[v[#1I v]]", 0, 2}, {"v[v[#1I 2]]", 0, 2}, {"v[#1N nothing]", 0, 2}, {"v[#1I x[0]]", 0, 2}, {"v[old(x)]", 0, 2}, {"v[x == #1W 8]", 0, 2},
	})
	checkWidths(t, 1, -1, []sample{{"x", 0, 5}, {"v", 0, 2}, {"w[1]", 0, 1}, {"M.v[1]", 0, 2}, {"#1N q[1]", 0, 1}, {"#1N l", 0, 1}})
}

// P5.1: references in a procedure, whose parameters and local variables hide shared variables.
func TestReferencesInProcedures(t *testing.T) {
	checkWidths(t, 0, 0, []sample{
		{"p", 0, 1}, {"k", 0, 3}, {"#1W k", 2, 2}, {"l", 0, 2}, {"h", 0, 5}, {"z", 0, 2}, {"M.z", 0, 8}, {"x", 0, 3}, {"h + #1W h.a[0]", 5, 5}, {"h + #1W h.a[0]", 0, 5}, {"#1N M.p", 0, 1}, {"#1N a", 0, 1},
		{"#1I p[0]", 0, 1}, {"#1I l[#2N nothing]", 0, 2}, {"v[k]", 0, 2}, {"q[l]", 4, 4}, {"q[#1I l[0]]", 4, 4},
	})
	checkWidths(t, 1, 1, []sample{{"a", 0, 2}, {"b", 0, 7}, {"#1N p", 0, 1}, {"y", 0, 4}, {"M.y", 0, 1}})
	s := api.Symbols{Modules: make([]api.Module, 1), Procs: []api.Proc{{Params: []api.Var{{Name: "a", W: 3, Len: 2}}, Locals: []api.Var{{Name: "a", W: 1}, {Name: "b", W: 2, Len: 8}}}}}
	for _, x := range []sample{{"a[1]", 0, 3}, {"a[#1I 2]", 0, 3}, {"#1I a", 0, 3}, {"b[7]", 0, 2}, {"b[#1I 8]", 0, 2}, {"all i < 2 : a[i] == #1W b[i]", 0, 1}, {"all i < 3 : a[#1I i] == 1", 0, 1}} {
		source, want := unmark(x.source)
		if width, diags := agreeOnWidth(t, s, 0, 0, parsed(t, source), x.want); width != x.width || text(diags) != text(want) {
			t.Errorf("%s: %d %v", x.source, width, diags)
		}
	}
}

// P5.1: old.
func TestOld(t *testing.T) {
	checkWidths(t, 0, -1, []sample{
		{"old(x)", 0, 3}, {"old(#1W x)", 4, 4}, {"old(v[1])", 0, 2}, {"old(#1I v)", 0, 2}, {"old(v[#1I 2])", 0, 2}, {"old(v[old(x)])", 0, 2}, {"old(#1N nothing)", 0, 1}, {"old(N.x) + 31", 5, 5}, {"old(N.x) + #1W x", 0, 5},
		{"all i < 2 : #1P old(i) == 0", 0, 1}, {"all x < 2 : #1P old(x) == 0", 0, 1}, {"all x < 2 : old(M.x) == 0", 0, 1}, {"all i < 2 : old(v[i]) == 0", 0, 1}, {"#1W some i < 9 : #2P old(#3I i[#4W 256])", 2, 2},
	})
	checkWidths(t, 0, 0, []sample{
		{"#1P old(x)", 0, 3}, {"#1P old(#2W x)", 4, 4}, {"#1P old(p)", 0, 1}, {"#1P old(l)", 0, 2}, {"#1P old(#2N nothing)", 0, 1}, {"v[#1P old(p)]", 0, 2}, {"#1P old(v[#2I 2])", 0, 2},
	})
	s := collected(t, bank)
	for kid, want := range map[string]string{"x": "3 []", "2": "2 [{Err:relyguard: error 44 At:9}]", "x + 1": "3 [{Err:relyguard: error 44 At:9}]", "old(x)": "3 [{Err:relyguard: error 44 At:9}]"} {
		width, diags := agreeOnWidth(t, s, 0, -1, api.Node{Kind: api.NodeOld, Kids: []api.Node{parsed(t, kid)}, At: 9}, 0)
		if got := strconv.Itoa(width) + " " + text(diags); got != want {
			t.Errorf("old of %s: %s", kid, got)
		}
	}
}

// P5.1: operators.
func TestOperators(t *testing.T) {
	checkWidths(t, 0, -1, []sample{
		{"!x", 0, 3}, {"!#1W x", 1, 1}, {"!!5", 0, 3}, {"!#1W 5", 2, 2}, {"!(x == 1)", 0, 1},
		{"x + x", 3, 3}, {"x + #1W y", 0, 3}, {"1 + x", 0, 3}, {"#1W 9 + x", 0, 3}, {"1 + (2 + x)", 0, 3}, {"1 + 5", 0, 3}, {"5 + 1", 0, 3}, {"#1W x + #2W z", 1, 1}, {"200 * 200", 0, 8}, {"1 + #1W 300", 0, 8},
		{"x | #1W z", 0, 3}, {"x ^ #1W z", 0, 3}, {"x & #1W z", 0, 3}, {"x - #1W z", 0, 3}, {"x * #1W z", 0, 3}, {"x | 7 ^ 6 & 5 - 4 * 3 + 2", 0, 3},
		{"x == 7", 0, 1}, {"7 == x", 0, 1}, {"x != #1W 8", 0, 1}, {"#1W 8 != x", 0, 1}, {"x < #1W z", 0, 1}, {"z <= #1W x", 0, 1}, {"1 == 200", 0, 1}, {"1 < #1W 300", 0, 1}, {"#1W 300 < 1", 0, 1}, {"1 + 3 < 4", 0, 1}, {"1 + #1W 8 < x", 0, 1},
		{"x #1W == 7", 3, 3}, {"x #1W == #2W 8", 8, 8}, {"x #1W != 7", 2, 2}, {"x #1W < 7", 3, 3}, {"x #1W <= 7", 3, 3}, {"(x == 1) == (z == 255)", 0, 1}, {"(x < 1) < #1W 2", 0, 1}, {"#1N nothing == 200", 0, 1}, {"#1N nothing == x", 0, 1},
		{"y && y", 0, 1}, {"y || #1W x", 0, 1}, {"#1W x ==> y", 0, 1}, {"y && 1", 0, 1}, {"y && #1W 2", 0, 1}, {"#2W x #1W && y", 2, 2}, {"y #1W || y", 8, 8}, {"y #1W ==> y", 3, 3}, {"x == 1 && y ==> z == 1 || !y", 0, 1},
		{"y ? x : 1", 0, 3}, {"y ? 1 : x", 0, 3}, {"#1W x ? 1 : 5", 0, 3}, {"y ? 5 : 1", 0, 3}, {"y ? 1 : 5", 3, 3}, {"y ? #1W x : #2W 5", 2, 2}, {"y ? x : #1W z", 0, 3}, {"#1W 2 ? 0 : 0", 0, 1}, {"(y ? 1 : z) == 255", 0, 1}, {"(y ? 1 : #1W 9) == x", 0, 1}, {"9 == (y ? 1 : 15)", 0, 1},
	})
}

// P5.1: quantifiers.
func TestQuantifiers(t *testing.T) {
	checkWidths(t, 0, -1, []sample{
		{"all i < 2 : y", 0, 1}, {"some i < 2 : y", 0, 1}, {"#1W all i < 2 : y", 2, 2}, {"#1W some i < 2 : y", 8, 8}, {"all i < 8 : y", 0, 1}, {"all i < 0 : y", 0, 1}, {"#1L all i < 9 : y", 0, 1}, {"#1L some i < 999 : #2W x", 0, 1}, {"#1W all i < 9 : y", 3, 3},
		{"all i < 2 : i", 0, 1}, {"all i < 3 : #1W i", 0, 1}, {"all i < 1 : i", 0, 1}, {"all i < 0 : i", 0, 1}, {"all i < 5 : i == 7", 0, 1}, {"all i < 5 : i == 8", 0, 1}, {"all i < 4 : 4 == i", 0, 1}, {"all i < 4 : i == x", 0, 1}, {"all i < 5 : #1W i == y", 0, 1}, {"all i < 5 : y == #1W i + #2W 2", 0, 1}, {"all i < 4 : i + 4 == 3", 0, 1}, {"all i < 4 : !i == 0", 0, 1}, {"all i < 4 : (y ? i : 0) == 3", 0, 1}, {"all i < 0 : i == 1", 0, 1}, {"all i < 0 : i == 2", 0, 1},
		{"all i < 2 : #1I i[0]", 0, 1}, {"all i < 8 : #1I i[0]", 0, 1}, {"all i < 2 : #1I i[#2N nothing]", 0, 1}, {"all i < 2 : v[i] == 1", 0, 1}, {"all i < 3 : v[#1I i] == 1", 0, 1}, {"all i < 8 : q[i] == 1", 0, 1}, {"#1L all i < 9 : q[#2I i] == 1", 0, 1}, {"all i < 8 : v[i + 1] == 1", 0, 1},
		{"all i < 0 : v[i] == 1", 0, 1}, {"all i < 2 : v[#1I i[0]] == 1", 0, 1}, {"all i < 3 : v[#1I i[nothing]] == 1", 0, 1}, {"all i < 3 : #1I x[i] == 1", 0, 1}, {"all i < 3 : #1N nothing[i] == 1", 0, 1},
		{"all x < 2 : x", 0, 1}, {"all v < 2 : #1I v[0]", 0, 1}, {"all v < 2 : v == M.v[v]", 0, 1}, {"(all x < 2 : x) && #1W x", 0, 1}, {"all i < 8 : all i < 2 : v[i] == 1", 0, 1}, {"all i < 2 : all i < 8 : v[#1I i] == 1", 0, 1}, {"all i < 2 : (some i < 8 : i == 1) && v[i] == 1", 0, 1}, {"all i < 2 : all j < 8 : q[j] == q[#1I i[j]]", 0, 1},
		{"(all i < 2 : y) && #1N i", 0, 1}, {"(all i < 3 : i == 2) && #1N i", 0, 1},
	})
	checkWidths(t, 0, 0, []sample{{"all p < 3 : #1W p", 0, 1}, {"all p < 3 : p == k", 0, 1}, {"all l < 2 : v[l] == 0", 0, 1}, {"(all l < 3 : l == 1) || #1W l", 0, 1}, {"some i < 2 : v[i] == l", 0, 1}})
}

// P5.1: bound variables with numbers that no source has.
func TestNumbersOfBoundVariables(t *testing.T) {
	s := collected(t, bank)
	for _, x := range []struct{ n, least, reports int }{{-1 << 63, 1, 1}, {-1, 1, 1}, {0, 1, 0}, {1, 1, 0}, {2, 1, 0}, {8, 3, 0}, {256, 8, 1}, {257, 8, 3}, {1<<63 - 1, 8, 3}} {
		i := api.Node{Kind: api.NodeRef, Name: "i", At: 7}
		e := api.Node{Kind: api.NodeSome, Name: "i", N: x.n, Kids: []api.Node{{Kind: api.NodeBinary, Name: "==", Kids: []api.Node{i, i}}}}
		if _, diags := agreeOnWidth(t, s, 0, -1, e, 0); len(diags) != x.reports {
			t.Error(x, diags)
		}
		e.Kids[0].Kids[1] = api.Node{Kind: api.NodeNumber, N: 1<<x.least - 1}
		if _, diags := agreeOnWidth(t, s, 0, -1, e, 0); len(diags) != min(x.reports, 2) {
			t.Error(x, diags)
		}
	}
}

// P5.1: the arguments that Width does not accept.
func TestArgumentsOfWidth(t *testing.T) {
	s := collected(t, bank)
	e := parsed(t, "  x")
	for _, x := range []struct{ module, proc, want int }{
		{-1, -1, 0}, {2, -1, 0}, {1 << 40, -1, 0}, {-1 << 63, -1, 0}, {-1, 0, 0}, {0, -2, 0}, {0, 2, 0}, {0, 1, 0}, {1, 0, 0}, {0, 1<<63 - 1, 0}, {2, 0, 0}, {0, -1, -1}, {0, -1, 9}, {0, 0, 1 << 40}, {1, 1, -1 << 63},
	} {
		if width, diags := agreeOnWidth(t, s, x.module, x.proc, e, x.want); width != 0 || text(diags) != text([]api.Diag{{Err: api.ErrArg, At: 2}}) {
			t.Error(x, width, diags)
		}
	}
	for want := range 9 {
		if width, diags := agreeOnWidth(t, s, 0, 0, parsed(t, "1"), want); width != max(1, want) || len(diags) != 0 {
			t.Error(want, width, diags)
		}
	}
	if width, diags := typing.Width(api.Symbols{}, 0, -1, e, 0); width != 0 || text(diags) != text([]api.Diag{{Err: api.ErrArg, At: 2}}) {
		t.Error(width, diags)
	}
}
