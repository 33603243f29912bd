package printer

import "relyguard/api"

// plain returns the text of an item without a list, up to its semicolon.
func plain(n api.Node) string {
	switch n.Kind {
	case api.NodeThread:
		return words(only(n.N == 1, "asleep"), "thread", n.Name, "=", n.Other+tuple(each(n.Kids, expr)...))
	case api.NodeField:
		return typed(n)
	case api.NodeShared:
		return shared(n)
	case api.NodeLock:
		return words("lock", n.Name, "invariant", expr(n.Kids[0]))
	case api.NodeAssign:
		return words(only(n.N == 1, "release"), assigns(n.Kids[:2]), with(n.Kids[2:]))
	case api.NodeAtomic:
		return words("atomic", "{", assigns(n.Kids[1:]), "}", maybe("when", n.Kids[0]))
	case api.NodeCas:
		return words("cas", commas(each(n.Kids[:3], expr)...), "into", expr(n.Kids[3]), with(n.Kids[4:]))
	case api.NodeCall:
		return words("call", n.Name+tuple(each(n.Kids, expr)...))
	case api.NodeLocal:
		return words(only(n.Ghost, "ghost"), "local", typed(n))
	}
	return words(keyWord(n.Kind), n.Name, commas(each(n.Kids, expr)...))
}

// keyWord returns the word of an item that has nothing but a name or expressions after it.
func keyWord(kind int) string {
	switch kind {
	case api.NodeRely:
		return "rely"
	case api.NodeGuar:
		return "guarantee"
	case api.NodeFrame:
		return "frame"
	case api.NodeAssert:
		return "assert"
	case api.NodeAwait:
		return "await"
	case api.NodeFence:
		return "fence"
	case api.NodeSkip:
		return "skip"
	case api.NodeAcquire:
		return "acquire"
	case api.NodeFree:
		return "free"
	case api.NodeSpawn:
		return "spawn"
	case api.NodeJoin:
		return "join"
	}
	return ""
}

func shared(n api.Node) string {
	length := only(n.Len != 0, "["+decimal(n.Len)+"]")
	bits := n.Other
	if bits == "" {
		bits = decimal(n.N)
	}
	return words(only(n.Ghost, "ghost"), "shared", n.Name+length, ":", bits, only(n.Init != 0, "=", decimal(n.Init)))
}

// typed returns a name and its number of bits.
func typed(n api.Node) string { return words(n.Name, ":", decimal(n.N)) }

// assigns returns assignments, each of which is a pair of nodes.
func assigns(pairs []api.Node) string {
	var texts []string
	for i := 0; i < len(pairs); i += 2 {
		texts = append(texts, words(expr(pairs[i]), ":=", expr(pairs[i+1])))
	}
	return commas(texts...)
}

func with(pairs []api.Node) string { return only(len(pairs) > 0, "with", assigns(pairs)) }

// maybe returns a word and the expression after it, if there is one.
func maybe(word string, n api.Node) string { return only(n.Kind != api.NodeNone, word, expr(n)) }
