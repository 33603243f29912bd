package printer

import (
	"strings"

	"relyguard/api"
)

// writer writes the lines of items at a depth of braces.
type writer struct {
	strings.Builder
	depth int
}

func (w *writer) line(parts ...string) {
	w.WriteString(strings.Repeat("  ", w.depth))
	for _, part := range parts {
		w.WriteString(part)
	}
	w.WriteString("\n")
}

func (w *writer) items(list []api.Node) {
	for _, n := range list {
		w.item(n)
	}
}

// inside writes items between braces.
func (w *writer) inside(list []api.Node) {
	w.depth++
	w.items(list)
	w.depth--
}

// list writes items in braces after what stands before them.
func (w *writer) list(head string, list []api.Node) {
	w.line(head, " {")
	w.inside(list)
	w.line("}")
}

func (w *writer) item(n api.Node) {
	switch n.Kind {
	case api.NodeModule:
		w.list(words("module", n.Name, "owner", n.Other), n.Kids)
	case api.NodeRecord:
		w.list(words("record", n.Name), n.Kids)
	case api.NodeProc:
		w.proc(n)
	case api.NodeIf:
		w.branch(n)
	case api.NodeWhile:
		w.list(words("while", expr(n.Kids[0]), maybe("variant", n.Kids[1])), n.Kids[2].Kids)
	default:
		w.line(plain(n), ";")
	}
}

func (w *writer) proc(n api.Node) {
	last := len(n.Kids) - 1
	params := each(n.Kids[:last], typed)
	w.list(words("proc", n.Name+tuple(params...), only(n.Other != "", "locked", n.Other)), n.Kids[last].Kids)
}

func (w *writer) branch(n api.Node) {
	w.line("if ", expr(n.Kids[0]), " {")
	w.inside(n.Kids[1].Kids)
	if no := n.Kids[2].Kids; len(no) > 0 {
		w.line("} else {")
		w.inside(no)
	}
	w.line("}")
}
