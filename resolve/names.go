package resolve

import (
	"strings"

	"relyguard/api"
)

// item is a name in a module.
type item struct {
	module int
	name   string
}

// names finds the modules, and the declarations of one sort in all of them. Of several with one name, the first one counts.
type names struct {
	modules map[string]int
	items   map[item]int
}

func procNames(s api.Symbols) names {
	n := moduleNames(s)
	for i, p := range s.Procs {
		keepFirst(n.items, item{p.Module, p.Name}, i)
	}
	return n
}

func varNames(s api.Symbols) names {
	n := moduleNames(s)
	for i, v := range s.Vars {
		keepFirst(n.items, item{v.Module, v.Name}, i)
	}
	return n
}

// moduleNames knows the modules, and nothing that they declare.
func moduleNames(s api.Symbols) names {
	n := names{modules: map[string]int{}, items: map[item]int{}}
	for i, m := range s.Modules {
		keepFirst(n.modules, m.Name, i)
	}
	return n
}

// numbers returns the first number of each name.
func numbers(list []api.Var) map[string]int {
	found := map[string]int{}
	for i, v := range list {
		keepFirst(found, v.Name, i)
	}
	return found
}

func keepFirst[K comparable](found map[K]int, key K, i int) {
	if _, ok := found[key]; !ok {
		found[key] = i
	}
}

// find returns the number of what a path denotes in a module (in none, if it is -1).
func (n names) find(module int, path string) (int, bool) {
	if module != -1 {
		if i, ok := n.items[item{module, path}]; ok {
			return i, true
		}
	}
	head, rest, qualified := strings.Cut(path, ".")
	other, ok := n.modules[head]
	if !qualified || !ok {
		return 0, false
	}
	i, ok := n.items[item{other, rest}]
	return i, ok
}
