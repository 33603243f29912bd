package resolve

import (
	"container/heap"
	"maps"
	"slices"
	"sort"

	"relyguard/api"
)

// bodies makes the fourth pass.
func (c *collector) bodies(procs names) {
	locks := map[item]bool{}
	for _, l := range c.found.Locks {
		locks[item{l.Module, l.Name}] = true
	}
	for i := range c.found.Procs {
		p := &c.found.Procs[i]
		if p.Locked != "" && !locks[item{p.Module, p.Locked}] {
			c.report(api.ErrName, p.At)
		}
		p.Calls = called(*p, procs)
	}
}

// called returns the procedures that a procedure calls.
func called(p api.Proc, procs names) []int {
	calls := map[int]bool{}
	for n := range below(p.Body, api.NodeCall) {
		if i, ok := procs.find(p.Module, n.Name); ok {
			calls[i] = true
		}
	}
	return slices.Sorted(maps.Keys(calls))
}

// cycles makes the fifth pass.
func (c *collector) cycles() {
	for i, recursive := range callThemselves(callsOf(c.found)) {
		if recursive {
			c.report(api.ErrCycle, c.found.Procs[i].At)
		}
	}
}

func callsOf(s api.Symbols) [][]int {
	var calls [][]int
	for _, p := range s.Procs {
		calls = append(calls, p.Calls)
	}
	return calls
}

// areIndices reports whether all calls are of procedures that exist.
func areIndices(calls [][]int) bool {
	for _, list := range calls {
		for _, i := range list {
			if !isIndex(i, len(calls)) {
				return false
			}
		}
	}
	return true
}

// callersOf returns the procedures that call each procedure.
func callersOf(calls [][]int) [][]int {
	callers := make([][]int, len(calls))
	for i, list := range calls {
		for _, j := range list {
			callers[j] = append(callers[j], i)
		}
	}
	return callers
}

// callThemselves returns for each procedure whether it calls itself, directly or through others. Followed backward from the one that was left last, calls lead to exactly those that it can reach as well (Kosaraju), so that no call is followed more than twice.
func callThemselves(calls [][]int) []bool {
	var left []int
	seen := make([]bool, len(calls))
	for i := range calls {
		left = append(left, reach(i, calls, seen)...)
	}
	recursive := make([]bool, len(calls))
	callers := callersOf(calls)
	clear(seen)
	for _, i := range slices.Backward(left) {
		together := reach(i, callers, seen)
		for _, j := range together {
			recursive[j] = len(together) > 1 || slices.Contains(calls[j], j)
		}
	}
	return recursive
}

// reach follows edges to all that was not seen yet. It returns what it reaches, each one after those that were reached from it.
func reach(start int, edges [][]int, seen []bool) []int {
	type visit struct{ at, next int }
	if seen[start] {
		return nil
	}
	seen[start] = true
	var left []int
	path := []visit{{at: start}}
	for len(path) > 0 {
		last := &path[len(path)-1]
		if last.next == len(edges[last.at]) {
			left = append(left, last.at)
			path = path[:len(path)-1]
			continue
		}
		to := edges[last.at][last.next]
		last.next++
		if !seen[to] {
			seen[to] = true
			path = append(path, visit{at: to})
		}
	}
	return left
}

// calledFirst lists procedures after those that they call, always the smallest one that is ready. Those that call themselves, and those that call them, are missing.
func calledFirst(calls [][]int) []int {
	missing := make([]int, len(calls)) // the number of calls of procedures that are not yet in the list
	ready := &queue{}
	for i, list := range calls {
		missing[i] = len(list)
		if len(list) == 0 {
			heap.Push(ready, i)
		}
	}
	var order []int
	callers := callersOf(calls)
	for ready.Len() > 0 {
		i := heap.Pop(ready).(int)
		order = append(order, i)
		for _, j := range callers[i] {
			missing[j]--
			if missing[j] == 0 {
				heap.Push(ready, j)
			}
		}
	}
	return order
}

// queue is a heap of numbers.
type queue struct{ sort.IntSlice }

func (q *queue) Push(n any) { q.IntSlice = append(q.IntSlice, n.(int)) }

func (q *queue) Pop() any {
	last := q.Len() - 1
	n := q.IntSlice[last]
	q.IntSlice = q.IntSlice[:last]
	return n
}
