package resolve_test

import (
	"slices"
	"strconv"
	"strings"
	"testing"

	"relyguard/api"
	"relyguard/resolve"
)

// dotless reports whether no name of a tree contains a dot, apart from paths.
func dotless(tree api.Node) bool {
	return !slices.ContainsFunc(nodes(&tree), func(n *api.Node) bool {
		return strings.Contains(n.Name, ".") && n.Kind != api.NodeRef && n.Kind != api.NodeCall
	})
}

// differ reports whether the names of a list are different, for each module alone.
func differ(list []item) bool {
	seen := map[item]bool{}
	for _, x := range list {
		if seen[x] {
			return false
		}
		seen[x] = true
	}
	return true
}

func namesOf(list []api.Var) []item {
	var names []item
	for _, v := range list {
		names = append(names, item{v.Module, v.Name})
	}
	return names
}

func differentNames(s api.Symbols, withVars bool) bool {
	var modules, threads, own []item
	for _, m := range s.Modules {
		modules = append(modules, item{0, m.Name})
	}
	for _, x := range s.Threads {
		threads = append(threads, item{0, x.Name})
	}
	for _, l := range s.Locks {
		own = append(own, item{l.Module, l.Name})
	}
	for _, p := range s.Procs {
		own = append(own, item{p.Module, p.Name})
		if !differ(namesOf(append(slices.Clone(p.Params), p.Locals...))) {
			return false
		}
	}
	return differ(modules) && differ(threads) && differ(own) && (!withVars || differ(namesOf(s.Vars)))
}

func within(n, least, most int) bool { return least <= n && n <= most }

func rightVar(v api.Var, modules int) bool {
	return within(v.Module, 0, modules-1) && within(v.W, 1, 8) && within(v.Len, 0, 8) && within(v.Init, 0, 1<<v.W-1)
}

// inRange reports whether indices, widths and initial values are in their ranges, and no limit is exceeded.
func inRange(s api.Symbols) bool {
	right := len(s.Modules) <= 6 && len(s.Locks) <= 4 && len(s.Threads) <= 4
	for _, v := range s.Vars {
		right = right && rightVar(v, len(s.Modules))
	}
	for _, l := range s.Locks {
		right = right && within(l.Module, 0, len(s.Modules)-1)
	}
	for _, p := range s.Procs {
		right = right && within(p.Module, 0, len(s.Modules)-1)
		for _, v := range append(slices.Clone(p.Params), p.Locals...) {
			right = right && rightVar(v, len(s.Modules)) && v.Module == p.Module && v.Len == 0 && v.Init == 0
		}
		for i, call := range p.Calls {
			right = right && within(call, 0, len(s.Procs)-1) && (i == 0 || p.Calls[i-1] < call)
		}
	}
	for _, x := range s.Threads {
		right = right && within(x.Proc, 0, len(s.Procs)-1) && len(x.Args) == len(s.Procs[x.Proc].Params)
		for i, arg := range x.Args {
			right = right && within(arg, 0, 1<<s.Procs[x.Proc].Params[i].W-1)
		}
	}
	return right
}

// P4.2: names are different, and numbers are right.
func TestDeclaredNames(t *testing.T) {
	c := chance(5)
	simple := 0
	for range 3000 {
		tree := c.source(20)
		for range c.below(2) * c.below(6) {
			c.bend(&tree)
		}
		s, _ := resolve.Collect(tree)
		if !differentNames(s, dotless(tree)) || !inRange(s) {
			t.Fatalf("%+v: %+v", tree, s)
		}
		if dotless(tree) {
			simple++
		}
	}
	if simple < 300 {
		t.Errorf("only %d trees without dots", simple)
	}
}

// P4.3: qualified names denote the variables and procedures of all modules, simple names those of their own.
func TestQualifiedNames(t *testing.T) {
	c := chance(6)
	for range 1000 {
		if tree := c.source(20); dotless(tree) {
			s, _ := resolve.Collect(tree)
			checkQualifiedNames(t, s)
		}
	}
	if hidden := checkQualifiedNames(t, collected(t, crossed)); hidden != 2 {
		t.Errorf("%d names are hidden, want N.a and v.a in M", hidden)
	}
}

// checkQualifiedNames returns how many qualified names are hidden by a variable that a module declares itself, as a field of a record.
func checkQualifiedNames(t *testing.T, s api.Symbols) int {
	t.Helper()
	hidden := 0
	for i, v := range s.Vars {
		path := s.Modules[v.Module].Name + "." + v.Name
		for module := range s.Modules {
			want := i
			if own := slices.Index(namesOf(s.Vars), item{module, path}); own >= 0 {
				want = own
				hidden++
			}
			if target, err := resolve.Lookup(s, module, -1, path); err != api.OK || target != (api.Target{Kind: api.TargetShared, Index: want}) {
				t.Fatalf("%s in %d: %v %v of %+v", path, module, target, err, s)
			}
		}
		if target, err := resolve.Lookup(s, v.Module, -1, v.Name); err != api.OK || target != (api.Target{Kind: api.TargetShared, Index: i}) {
			t.Fatalf("%s: %v %v", v.Name, target, err)
		}
	}
	for i, p := range s.Procs {
		for module := -1; module < len(s.Modules); module++ {
			if j, err := resolve.ProcOf(s, module, s.Modules[p.Module].Name+"."+p.Name); err != api.OK || j != i {
				t.Fatalf("%s in %d: %d %v", p.Name, module, j, err)
			}
		}
		if j, err := resolve.ProcOf(s, p.Module, p.Name); err != api.OK || j != i {
			t.Fatalf("%s: %d %v", p.Name, j, err)
		}
	}
	return hidden
}

// earlier returns what modules that are added later leave as it was.
func earlier(s api.Symbols, modules int) api.Symbols {
	later := func(module int) bool { return module >= modules }
	s.Modules = s.Modules[:modules]
	s.Vars = slices.DeleteFunc(slices.Clone(s.Vars), func(v api.Var) bool { return later(v.Module) })
	s.Locks = slices.DeleteFunc(slices.Clone(s.Locks), func(l api.LockDecl) bool { return later(l.Module) })
	s.Procs = slices.DeleteFunc(slices.Clone(s.Procs), func(p api.Proc) bool { return later(p.Module) })
	for i := range s.Procs {
		s.Procs[i].Calls = nil
	}
	s.Threads = nil
	return s
}

// P4.5: modules after the last one leave the earlier declarations as they were.
func TestExtension(t *testing.T) {
	c := chance(7)
	grown := 0
	for range 1000 {
		tree := c.source(8)
		more := tree
		more.Kids = slices.Concat(tree.Kids, c.source(8).Kids)
		s, _ := resolve.Collect(tree)
		longer, _ := resolve.Collect(more)
		n := len(s.Modules)
		if text(earlier(longer, n)) != text(earlier(s, n)) {
			t.Fatalf("%+v with %+v:\n%+v\n%+v", tree, more.Kids[len(tree.Kids):], s, longer)
		}
		if !slices.EqualFunc(longer.Vars[:len(s.Vars)], s.Vars, func(a, b api.Var) bool { return a == b }) {
			t.Fatalf("moved: %+v %+v", s.Vars, longer.Vars)
		}
		if len(longer.Modules) > n {
			grown++
		}
	}
	if grown < 200 {
		t.Errorf("only %d trees got new modules", grown)
	}
}

// moved returns a tree with other offsets, and notes for each of them what it was.
func moved(n api.Node, was map[int]int) api.Node {
	at := -7*len(was) - 1
	was[at] = n.At
	n.At = at
	n.Kids = slices.Clone(n.Kids)
	for i := range n.Kids {
		n.Kids[i] = moved(n.Kids[i], was)
	}
	return n
}

// back changes all offsets in symbols to what they were.
func back(s *api.Symbols, diags []api.Diag, was map[int]int) {
	trees := []*api.Node{}
	for i := range s.Modules {
		m := &s.Modules[i]
		m.At = was[m.At]
		trees = append(trees, nodes(&m.Rely)...)
		trees = append(trees, nodes(&m.Guar)...)
		for k := range m.Frame {
			trees = append(trees, nodes(&m.Frame[k])...)
		}
	}
	for i := range s.Vars {
		s.Vars[i].At = was[s.Vars[i].At]
	}
	for i := range s.Locks {
		s.Locks[i].At = was[s.Locks[i].At]
		trees = append(trees, nodes(&s.Locks[i].Inv)...)
	}
	for i := range s.Procs {
		p := &s.Procs[i]
		p.At = was[p.At]
		for k := range p.Params {
			p.Params[k].At = was[p.Params[k].At]
		}
		for k := range p.Locals {
			p.Locals[k].At = was[p.Locals[k].At]
		}
		trees = append(trees, nodes(&p.Body)...)
	}
	for i := range s.Threads {
		s.Threads[i].At = was[s.Threads[i].At]
	}
	for _, n := range trees {
		n.At = was[n.At]
	}
	for i := range diags {
		diags[i].At = was[diags[i].At]
	}
}

// P4.6: with other offsets, only the offsets change, and they stay those of the same nodes.
func TestOffsets(t *testing.T) {
	c := chance(8)
	for range 1000 {
		tree := c.source(12)
		was := map[int]int{0: 0}
		other := moved(tree, was)
		s, diags := resolve.Collect(tree)
		again, moreDiags := resolve.Collect(other)
		back(&again, moreDiags, was)
		if text(s) != text(again) || text(diags) != text(moreDiags) {
			t.Fatalf("%+v:\n%+v %v\n%+v %v", tree, s, diags, again, moreDiags)
		}
	}
}

// scribble writes over everything that can be reached from nodes.
func scribble(list []api.Node) {
	for i := range list {
		scribble(list[i].Kids)
		list[i] = api.Node{Kind: -9, Name: "scribble", Kids: list[i].Kids}
	}
}

// Rules: a result has no memory of the argument, nor of another result.
func TestFreshResults(t *testing.T) {
	c := chance(9)
	for range 300 {
		tree := c.source(12)
		s, diags := resolve.Collect(tree)
		before, twinBefore := text(s)+text(diags), text(tree)
		other, _ := resolve.Collect(tree)
		for i := range other.Modules {
			scribble([]api.Node{other.Modules[i].Rely, other.Modules[i].Guar})
			scribble(other.Modules[i].Frame)
		}
		for i := range other.Locks {
			scribble([]api.Node{other.Locks[i].Inv})
		}
		for i := range other.Procs {
			scribble([]api.Node{other.Procs[i].Body})
			clear(other.Procs[i].Calls)
		}
		if text(tree) != twinBefore {
			t.Fatal("the result shares memory with the tree")
		}
		scribble(tree.Kids)
		if text(s)+text(diags) != before {
			t.Fatal("the tree shares memory with the result")
		}
	}
}

func numbered(prefix string, i int) string { return prefix + strconv.Itoa(i) }

// P1: the depth of a tree does not matter, nor does its size: what takes a time that is the square of it would not end here.
func TestLargeTrees(t *testing.T) {
	deep := api.Node{Kind: api.NodeLocal, Name: "v", N: 1, Kids: []api.Node{{Kind: api.NodeCall, Name: "p0"}}}
	for range 1 << 16 {
		deep = api.Node{Kind: api.NodeBlock, Kids: []api.Node{deep}}
	}
	const n = 100000
	m := api.Node{Kind: api.NodeModule, Name: "M", Kids: []api.Node{{Kind: api.NodeRely, Kids: []api.Node{deep}}}}
	record := api.Node{Kind: api.NodeRecord, Name: "r"}
	source := api.Node{Kind: api.NodeSource}
	for i := range n {
		record.Kids = append(record.Kids, api.Node{Kind: api.NodeField, Name: numbered("f", i), N: 1})
		body := api.Node{Kind: api.NodeBlock, Kids: []api.Node{{Kind: api.NodeCall, Name: numbered("M.p", i+1)}}}
		m.Kids = append(m.Kids, api.Node{Kind: api.NodeProc, Name: numbered("p", i), Kids: []api.Node{body}})
		m.Kids = append(m.Kids, api.Node{Kind: api.NodeShared, Name: numbered("x", i), N: 1})
		source.Kids = append(source.Kids, api.Node{Kind: api.NodeThread, Name: numbered("t", i), Other: numbered("M.p", i)})
	}
	m.Kids = append(m.Kids, record, api.Node{Kind: api.NodeShared, Name: "all", Other: "r"}, api.Node{Kind: api.NodeProc, Name: numbered("p", n), Kids: []api.Node{deep}})
	source.Kids = append(source.Kids, m)
	s, diags := resolve.Collect(source)
	if len(diags) != api.MaxDiags || len(s.Procs) != n+1 || len(s.Vars) != 2*n || len(s.Threads) != 4 || len(s.Procs[n].Locals) != 1 || text(s.Procs[n].Calls) != "[0]" {
		t.Error(diags, len(s.Procs), len(s.Vars), s.Threads)
	}
	if order, err := resolve.Order(s); order != nil || err != api.ErrCycle {
		t.Error(len(order), err)
	}
	s.Procs[n].Calls = nil
	order, err := resolve.Order(s)
	if err != api.OK || len(order) != n+1 || order[0] != n || order[n] != 0 {
		t.Error(len(order), err)
	}
	if target, err := resolve.Lookup(s, 0, n, numbered("M.all.f", n-1)); err != api.OK || target.Index != 2*n-1 {
		t.Error(target, err)
	}
}
