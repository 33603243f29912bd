package resolve_test

import (
	"fmt"
	"slices"
	"strings"
	"testing"

	"relyguard/api"
	"relyguard/resolve"
)

// second is a second reading of D1: it looks through lists where the package has maps, and follows trees and calls by recursion.
type second struct {
	s       api.Symbols
	diags   []api.Diag
	nodes   []api.Node     // those of the modules
	words   []string       // the names of declarations, each after the index of its module
	records []secondRecord // in the order of their declaration
}

type secondRecord struct {
	module int
	name   string
	fields []api.Var
}

var none = api.Node{Kind: api.NodeNone}

func secondCollect(source api.Node) (api.Symbols, []api.Diag) {
	var r second
	if source.Kind != api.NodeSource {
		return r.s, nil
	}
	for _, n := range source.Kids {
		if n.Kind == api.NodeModule {
			r.module(n)
		}
	}
	for module, n := range r.nodes {
		for _, d := range n.Kids {
			r.declaration(module, d)
		}
	}
	for _, n := range source.Kids {
		if n.Kind == api.NodeThread {
			r.thread(n)
		}
	}
	for i := range r.s.Procs {
		r.body(&r.s.Procs[i])
	}
	for i, p := range r.s.Procs {
		if reaches(r.s, i, i) {
			r.say(api.ErrCycle, p.At)
		}
	}
	return r.s, r.diags[:min(len(r.diags), 20)]
}

func (r *second) say(err api.Errno, at int) { r.diags = append(r.diags, api.Diag{Err: err, At: at}) }

func (r *second) module(n api.Node) {
	for _, m := range r.s.Modules {
		if m.Name == n.Name {
			r.say(api.ErrTwice, n.At)
			return
		}
	}
	if len(r.s.Modules) >= 6 {
		r.say(api.ErrLimit, n.At)
		return
	}
	m := api.Module{Name: n.Name, Owner: n.Other, At: n.At, Rely: none, Guar: none}
	var relies, guars, frames int
	for _, kid := range n.Kids {
		count, part := &frames, (*api.Node)(nil)
		switch kid.Kind {
		case api.NodeRely:
			count, part = &relies, &m.Rely
		case api.NodeGuar:
			count, part = &guars, &m.Guar
		case api.NodeFrame:
		default:
			continue
		}
		*count++
		if *count > 1 {
			r.say(api.ErrTwice, kid.At)
		} else if part != nil && len(kid.Kids) > 0 {
			*part = kid.Kids[0]
		} else if part == nil {
			m.Frame = slices.DeleteFunc(slices.Clone(kid.Kids), func(ref api.Node) bool { return ref.Kind != api.NodeRef })
		}
	}
	r.s.Modules = append(r.s.Modules, m)
	r.nodes = append(r.nodes, n)
}

func (r *second) declaration(module int, d api.Node) {
	if d.Kind != api.NodeRecord && d.Kind != api.NodeShared && d.Kind != api.NodeLock && d.Kind != api.NodeProc {
		return
	}
	word := fmt.Sprint(module, d.Name)
	if slices.Contains(r.words, word) {
		r.say(api.ErrTwice, d.At)
		return
	}
	count := len(r.diags)
	switch d.Kind {
	case api.NodeRecord:
		fields, _ := r.split(module, ofKind(d.Kids, api.NodeField), nil)
		r.records = append(r.records, secondRecord{module, d.Name, fields})
		count = len(r.diags)
	case api.NodeShared:
		r.shared(module, d)
	case api.NodeLock:
		inv := none
		if len(d.Kids) > 0 {
			inv = d.Kids[0]
		}
		if len(r.s.Locks) >= 4 {
			r.say(api.ErrLimit, d.At)
		} else {
			r.s.Locks = append(r.s.Locks, api.LockDecl{Name: d.Name, Module: module, Inv: inv, At: d.At})
		}
	case api.NodeProc:
		body := none
		if blocks := ofKind(d.Kids, api.NodeBlock); len(blocks) > 0 {
			body = blocks[0]
		}
		params, locals := r.split(module, ofKind(d.Kids, api.NodeParam), ofKind(flat(body), api.NodeLocal))
		r.s.Procs = append(r.s.Procs, api.Proc{Name: d.Name, Module: module, Params: params, Locals: locals, Locked: d.Other, Body: body, At: d.At})
		count = len(r.diags)
	}
	if len(r.diags) == count {
		r.words = append(r.words, word)
	}
}

func (r *second) shared(module int, d api.Node) {
	list := []api.Var{{Name: d.Name, W: d.N}}
	if d.Other != "" {
		i := slices.IndexFunc(r.records, func(x secondRecord) bool { return x.module == module && x.name == d.Other })
		if d.Len >= 0 && d.Len <= 8 && i < 0 {
			r.say(api.ErrName, d.At)
			return
		}
		list = nil
		if i >= 0 {
			list = slices.Clone(r.records[i].fields)
		}
		for k := range list {
			list[k].Name = fmt.Sprintf("%s.%s", d.Name, list[k].Name)
		}
	}
	for _, v := range list {
		if d.Len >= 0 && d.Len <= 8 && (v.W < 1 || v.W > 8 || d.Init < 0 || d.Init > 1<<v.W-1) {
			r.say(api.ErrWidth, d.At)
			return
		}
	}
	if d.Len < 0 || d.Len > 8 {
		r.say(api.ErrLimit, d.At)
		return
	}
	for _, v := range list {
		r.s.Vars = append(r.s.Vars, api.Var{Name: v.Name, W: v.W, Len: d.Len, Init: d.Init, Ghost: d.Ghost, Module: module, At: d.At})
	}
}

// split returns the variables of two lists of nodes that have different names.
func (r *second) split(module int, a, b []api.Node) (first, rest []api.Var) {
	for i, n := range append(slices.Clone(a), b...) {
		same := func(v api.Var) bool { return v.Name == n.Name }
		v := api.Var{Name: n.Name, W: n.N, Ghost: n.Ghost, Module: module, At: n.At}
		if slices.ContainsFunc(first, same) || slices.ContainsFunc(rest, same) {
			r.say(api.ErrTwice, n.At)
		} else if n.N <= 0 || n.N >= 9 {
			r.say(api.ErrWidth, n.At)
		} else if i < len(a) {
			first = append(first, v)
		} else {
			rest = append(rest, v)
		}
	}
	return first, rest
}

func (r *second) thread(n api.Node) {
	proc, err := secondProcOf(r.s, -1, n.Other)
	if slices.ContainsFunc(r.s.Threads, func(t api.ThreadDecl) bool { return t.Name == n.Name }) {
		err = api.ErrTwice
	} else if len(r.s.Threads) >= 4 {
		err = api.ErrLimit
	} else if err == api.OK && len(r.s.Procs[proc].Params) != len(n.Kids) {
		err = api.ErrCall
	}
	if err != api.OK {
		r.say(err, n.At)
		return
	}
	t := api.ThreadDecl{Name: n.Name, Proc: proc, Asleep: n.N == 1, At: n.At}
	for i, kid := range n.Kids {
		if kid.Kind != api.NodeNumber || kid.N < 0 || kid.N > 1<<r.s.Procs[proc].Params[i].W-1 {
			r.say(api.ErrWidth, kid.At)
			return
		}
		t.Args = append(t.Args, kid.N)
	}
	r.s.Threads = append(r.s.Threads, t)
}

func (r *second) body(p *api.Proc) {
	mine := func(l api.LockDecl) bool { return l.Module == p.Module && l.Name == p.Locked }
	if p.Locked != "" && !slices.ContainsFunc(r.s.Locks, mine) {
		r.say(api.ErrName, p.At)
	}
	for _, n := range ofKind(flat(p.Body), api.NodeCall) {
		if i, err := secondProcOf(r.s, p.Module, n.Name); err == api.OK {
			p.Calls = append(p.Calls, i)
		}
	}
	slices.Sort(p.Calls)
	p.Calls = slices.Compact(p.Calls)
}

func ofKind(list []api.Node, kind int) []api.Node {
	return slices.DeleteFunc(slices.Clone(list), func(n api.Node) bool { return n.Kind != kind })
}

// flat returns the nodes of a tree in pre-order.
func flat(n api.Node) []api.Node {
	list := []api.Node{n}
	for _, kid := range n.Kids {
		list = append(list, flat(kid)...)
	}
	return list
}

// reaches reports whether one or more calls lead from a procedure to another one.
func reaches(s api.Symbols, from, to int) bool {
	seen := map[int]bool{}
	var follow func(i int)
	follow = func(i int) {
		for _, j := range s.Procs[i].Calls {
			if !seen[j] {
				seen[j] = true
				follow(j)
			}
		}
	}
	follow(from)
	return seen[to]
}

func secondProcOf(s api.Symbols, module int, path string) (int, api.Errno) {
	if module < -1 || module >= len(s.Modules) {
		return 0, api.ErrArg
	}
	places := []item{}
	if module >= 0 {
		places = append(places, item{module, path})
	}
	for _, place := range append(places, qualified(s, path)...) {
		for i, p := range s.Procs {
			if p.Module == place.module && p.Name == place.name {
				return i, api.OK
			}
		}
	}
	return 0, api.ErrName
}

type item struct {
	module int
	name   string
}

// qualified returns what the head and the rest of a path say, if there are any.
func qualified(s api.Symbols, path string) []item {
	dot := strings.IndexByte(path, '.')
	for i, m := range s.Modules {
		if dot >= 0 && m.Name == path[:dot] {
			return []item{{i, path[dot+1:]}}
		}
	}
	return nil
}

func secondLookup(s api.Symbols, module, proc int, path string) (api.Target, api.Errno) {
	if module < 0 || module >= len(s.Modules) || proc < -1 || proc >= len(s.Procs) || proc >= 0 && s.Procs[proc].Module != module {
		return api.Target{}, api.ErrArg
	}
	if proc >= 0 {
		for i, v := range s.Procs[proc].Params {
			if v.Name == path {
				return api.Target{Kind: api.TargetParam, Index: i}, api.OK
			}
		}
		for i, v := range s.Procs[proc].Locals {
			if v.Name == path {
				return api.Target{Kind: api.TargetLocal, Index: i}, api.OK
			}
		}
	}
	for _, place := range append([]item{{module, path}}, qualified(s, path)...) {
		for i, v := range s.Vars {
			if v.Module == place.module && v.Name == place.name {
				return api.Target{Kind: api.TargetShared, Index: i}, api.OK
			}
		}
	}
	return api.Target{}, api.ErrName
}

// secondOrder tries all procedures at every position.
func secondOrder(s api.Symbols) ([]int, api.Errno) {
	for _, p := range s.Procs {
		for _, i := range p.Calls {
			if i < 0 || i >= len(s.Procs) {
				return nil, api.ErrArg
			}
		}
	}
	var order []int
	for range s.Procs {
		next := -1
		for i, p := range s.Procs {
			ready := !slices.ContainsFunc(p.Calls, func(j int) bool { return !slices.Contains(order, j) })
			if next < 0 && ready && !slices.Contains(order, i) {
				next = i
			}
		}
		if next < 0 {
			return nil, api.ErrCycle
		}
		order = append(order, next)
	}
	return order, api.OK
}

// text writes a value, with a nil slice like an empty one.
func text(value any) string { return fmt.Sprintf("%+v", value) }

// agree compares Collect, and the other functions on its result, with the second reading.
func agree(t *testing.T, source api.Node) (api.Symbols, []api.Diag) {
	t.Helper()
	before := text(source)
	s, diags := resolve.Collect(source)
	want, wantDiags := secondCollect(source)
	if text(s) != text(want) || text(diags) != text(wantDiags) {
		t.Fatalf("Collect(%s)\n= %+v\n%+v\nwant %+v\n%+v", before, s, diags, want, wantDiags)
	}
	if text(source) != before {
		t.Fatalf("Collect changes %s", before)
	}
	agreeOnCalls(t, s)
	return s, diags
}

// agreeOnCalls compares the functions on symbols, for all modules and procedures, and for all names that occur and some others.
func agreeOnCalls(t *testing.T, s api.Symbols) {
	t.Helper()
	for _, path := range paths(s) {
		for module := -2; module <= len(s.Modules); module++ {
			i, err := resolve.ProcOf(s, module, path)
			if want, wantErr := secondProcOf(s, module, path); i != want || err != wantErr {
				t.Fatalf("ProcOf(%+v, %d, %q) = %d %v, want %d %v", s, module, path, i, err, want, wantErr)
			}
			for proc := -2; proc <= len(s.Procs); proc++ {
				target, err := resolve.Lookup(s, module, proc, path)
				if want, wantErr := secondLookup(s, module, proc, path); target != want || err != wantErr {
					t.Fatalf("Lookup(%+v, %d, %d, %q) = %v %v, want %v %v", s, module, proc, path, target, err, want, wantErr)
				}
			}
		}
	}
	order, err := resolve.Order(s)
	if want, wantErr := secondOrder(s); text(order) != text(want) || err != wantErr {
		t.Fatalf("Order(%+v) = %v %v, want %v %v", s, order, err, want, wantErr)
	}
}

// paths returns the names of symbols, also behind those of modules, and some that are no paths.
func paths(s api.Symbols) []string {
	simple := []string{"", "nowhere"}
	for _, v := range s.Vars {
		simple = append(simple, v.Name)
	}
	for _, p := range s.Procs {
		simple = append(simple, p.Name)
		for _, v := range append(slices.Clone(p.Params), p.Locals...) {
			simple = append(simple, v.Name)
		}
	}
	slices.Sort(simple)
	simple = slices.Compact(simple)
	all := append(slices.Clone(simple), ".", "..", "M..", ".M")
	for _, m := range s.Modules {
		all = append(all, m.Name)
		for _, name := range simple {
			all = append(all, m.Name+"."+name)
		}
	}
	return all
}
