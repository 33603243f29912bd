package parser

import (
	"slices"
	"strings"

	"relyguard/api"
)

const (
	maxNumber = 999999999
	maxPath   = 3 // names of a path
)

// Valid reports whether a tree is one that Parse or ParseExpr can return without diagnostics, apart from offsets.
func Valid(n api.Node) bool {
	// The limits come first, so that the rest is quick for the largest trees, too.
	return (n.Kind == api.NodeSource || isExpr(n)) && fits(n) && wellFormed(n, keyWords())
}

func wellFormed(n api.Node, keys map[string]bool) bool {
	w := rowOf(n)
	if !w.hasFields(n, keys) || !w.hasKids(n.Kids) {
		return false
	}
	for _, kid := range n.Kids {
		if !wellFormed(kid, keys) {
			return false
		}
	}
	return true
}

// row says what fields and kids a node has. A field that it does not mention is zero.
type row struct {
	name, other       label
	number, len, init int // the greatest N, Len and Init
	ghost             bool
	kids, more, last  []property // of the kids: those of more follow kids, any number of times, and precede last
}

type property func(n api.Node) bool

// label says what a text of a node is.
type label int

const (
	noLabel label = iota
	aName
	aPath
	anOperator
)

func (w row) hasFields(n api.Node, keys map[string]bool) bool {
	return w.name.fits(n.Name, keys) && w.other.fits(n.Other, keys) &&
		isUpTo(n.N, w.number) && isUpTo(n.Len, w.len) && isUpTo(n.Init, w.init) && (w.ghost || !n.Ghost)
}

func isUpTo(n, most int) bool { return n >= 0 && n <= most }

func (l label) fits(text string, keys map[string]bool) bool {
	switch l {
	case aName:
		return isName(text, keys)
	case aPath:
		return isPath(text, keys)
	case anOperator:
		return level(text) > 0
	}
	return text == ""
}

func isPath(text string, keys map[string]bool) bool {
	if strings.Count(text, ".") >= maxPath {
		return false
	}
	for _, name := range strings.Split(text, ".") {
		if !isName(name, keys) {
			return false
		}
	}
	return true
}

func isName(text string, keys map[string]bool) bool {
	if text == "" || len(text) > api.MaxName || !isLetter(text[0]) || keys[text] {
		return false
	}
	for i := range len(text) {
		if b := text[i]; !isLetter(b) && !isDigit(b) && b != '_' {
			return false
		}
	}
	return true
}

func isLetter(b byte) bool { return b >= 'A' && b <= 'Z' || b >= 'a' && b <= 'z' }

func isDigit(b byte) bool { return b >= '0' && b <= '9' }

func (w row) hasKids(kids []api.Node) bool {
	want := slices.Clone(w.kids)
	for len(w.more) > 0 && len(want)+len(w.last) < len(kids) {
		want = append(want, w.more...)
	}
	want = append(want, w.last...)
	if len(want) != len(kids) {
		return false
	}
	for i, kid := range kids {
		if !want[i](kid) {
			return false
		}
	}
	return true
}
