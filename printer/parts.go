package printer

import (
	"strings"

	"relyguard/api"
)

// words joins parts by blanks. A part that is missing is empty, and is left out.
func words(parts ...string) string {
	var there []string
	for _, part := range parts {
		if part != "" {
			there = append(there, part)
		}
	}
	return strings.Join(there, " ")
}

func commas(parts ...string) string { return strings.Join(parts, ", ") }

func tuple(parts ...string) string { return "(" + commas(parts...) + ")" }

// only returns the words of a part that is written under a condition.
func only(condition bool, parts ...string) string {
	if !condition {
		return ""
	}
	return words(parts...)
}

// each returns the texts of nodes.
func each(list []api.Node, text func(n api.Node) string) []string {
	var texts []string
	for _, n := range list {
		texts = append(texts, text(n))
	}
	return texts
}
