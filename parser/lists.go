package parser

import "relyguard/api"

// units reads the list of the modules and threads.
func (r *reader) units() []api.Node {
	var kids []api.Node
	for !r.ended() {
		if n, ok := r.item(r.unit, false); ok {
			kids = append(kids, n)
		}
	}
	return kids
}

// list reads a list in braces.
func (r *reader) list(read func() api.Node) []api.Node {
	r.expect("{")
	var kids []api.Node
	for !r.accept("}") {
		if r.ended() {
			r.wrong()
		}
		if n, ok := r.item(read, true); ok {
			kids = append(kids, n)
		}
	}
	return kids
}

// item reads an item of a list. If it is wrong, it is reported and skipped, and ok is false.
func (r *reader) item(read func() api.Node, inBraces bool) (n api.Node, ok bool) {
	defer func() {
		if wrong := recover(); wrong != nil {
			r.report(wrong.(api.Diag))
			r.skip(inBraces)
		}
	}()
	return read(), true
}

func (r *reader) report(d api.Diag) {
	count := len(r.diags)
	if count < api.MaxDiags && (count == 0 || r.diags[count-1].At != d.At) {
		r.diags = append(r.diags, d)
	}
}

// skip skips the rest of a wrong item, from its first wrong token on.
func (r *reader) skip(inBraces bool) {
	depth := r.braces
	r.braces = 0
	for !r.ended() {
		if inBraces && depth == 0 && r.peek().Text == "}" {
			return
		}
		switch r.take().Text {
		case "{":
			depth++
		case "}":
			depth--
			if depth < 0 {
				return
			}
			if depth == 0 {
				r.accept(";")
				return
			}
		case ";":
			if depth == 0 {
				return
			}
		}
	}
}
