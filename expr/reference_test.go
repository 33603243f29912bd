package expr_test

import (
	"fmt"
	"regexp"
	"slices"
	"strconv"
	"strings"

	"relyguard/api"
)

// A second reading of the chapter. It goes through expressions by levels, counts with powers of two, and takes texts apart from the outside.

// row says what a node requires: how many numbers N there are for its width, and the widths of its kids, where w is that of the node, and v one that is the same for all.
type row struct {
	name    string
	numbers func(w int) int
	kids    string
}

var rows = map[int]row{
	api.OpConst: {"", func(w int) int { return 1 << w }, ""},
	api.OpCell:  {"c", func(int) int { return 32 }, ""},
	api.OpOld:   {"o", func(int) int { return 32 }, ""},
	api.OpNot:   {"not", one, "w"},
	api.OpAnd:   {"and", one, "ww"},
	api.OpOr:    {"or", one, "ww"},
	api.OpXor:   {"xor", one, "ww"},
	api.OpAdd:   {"add", one, "ww"},
	api.OpSub:   {"sub", one, "ww"},
	api.OpMul:   {"mul", one, "ww"},
	api.OpEq:    {"eq", one, "vv"},
	api.OpLt:    {"lt", one, "vv"},
	api.OpLe:    {"le", one, "vv"},
	api.OpIte:   {"ite", one, "1ww"},
}

func one(int) int { return 1 }

func wellFormed(e api.Expr) bool {
	level, count := []api.Expr{e}, 0
	for depth := 1; len(level) > 0; depth++ {
		count += len(level)
		if depth > 40 || count > 600 {
			return false
		}
		var next []api.Expr
		for _, n := range level {
			if !rightNode(n) {
				return false
			}
			next = append(next, n.Kids...)
		}
		level = next
	}
	return true
}

func rightNode(n api.Expr) bool {
	r, ok := rows[n.Op]
	if !ok || n.W < 1 || n.W > 8 || n.N < 0 || n.N >= r.numbers(n.W) || len(n.Kids) != len(r.kids) {
		return false
	}
	if r.kids == "vv" {
		return n.W == 1 && n.Kids[0].W == n.Kids[1].W
	}
	for i, kid := range n.Kids {
		if want := map[byte]int{'w': n.W, '1': 1}[r.kids[i]]; kid.W != want {
			return false
		}
	}
	return true
}

// isOf tells F1's Valid.
func isOf(e api.Expr, cells []api.Cell, pair bool) bool {
	if !wellFormed(e) {
		return false
	}
	for _, n := range nodes(e) {
		if n.Op == api.OpOld && !pair {
			return false
		}
		if (n.Op == api.OpOld || n.Op == api.OpCell) && (n.N >= len(cells) || cells[n.N].W != n.W) {
			return false
		}
	}
	return true
}

// nodes returns all nodes of an expression.
func nodes(e api.Expr) []api.Expr {
	list := []api.Expr{e}
	for i := 0; i < len(list); i++ {
		list = append(list, list[i].Kids...)
	}
	return list
}

// worth is the value of an expression, computed in numbers without a width and in single bits.
func worth(e api.Expr, old, now []int) int {
	if !wellFormed(e) {
		return 0
	}
	return worthOf(e, old, now)
}

func worthOf(e api.Expr, old, now []int) int {
	var k []int
	for _, kid := range e.Kids {
		k = append(k, worthOf(kid, old, now))
	}
	switch e.Op {
	case api.OpConst:
		return e.N
	case api.OpCell:
		return rest(cellOf(now, e.N), e.W)
	case api.OpOld:
		return rest(cellOf(old, e.N), e.W)
	case api.OpNot:
		return 1<<e.W - 1 - k[0]
	case api.OpAnd, api.OpOr, api.OpXor:
		return bitByBit(e.Op, k[0], k[1])
	case api.OpAdd:
		return rest(k[0]+k[1], e.W)
	case api.OpSub:
		return rest(k[0]-k[1], e.W)
	case api.OpMul:
		return rest(k[0]*k[1], e.W)
	case api.OpIte:
		return k[2-k[0]]
	}
	truths := map[int]bool{api.OpEq: k[0] == k[1], api.OpLt: k[0] < k[1], api.OpLe: k[0] <= k[1]}
	if truths[e.Op] {
		return 1
	}
	return 0
}

func cellOf(state []int, cell int) int {
	if cell >= len(state) {
		return 0
	}
	return state[cell]
}

// rest is the remainder of a division by a power of two, also of a negative number.
func rest(n, w int) int {
	m := 1 << w
	return (n%m + m) % m
}

func bitByBit(op, a, b int) int {
	result := 0
	for place := 1; place < 256; place *= 2 {
		sum := a/place%2 + b/place%2
		if op == api.OpAnd && sum == 2 || op == api.OpOr && sum > 0 || op == api.OpXor && sum == 1 {
			result += place
		}
	}
	return result
}

// written is the text of an expression.
func written(e api.Expr) string {
	if !wellFormed(e) {
		return ""
	}
	return writtenOf(e)
}

func writtenOf(e api.Expr) string {
	if len(e.Kids) == 0 {
		return fmt.Sprintf("%s%d:%d", rows[e.Op].name, e.N, e.W)
	}
	var kids []string
	for _, kid := range e.Kids {
		kids = append(kids, writtenOf(kid))
	}
	return rows[e.Op].name + "(" + strings.Join(kids, ",") + ")"
}

var (
	leaf  = regexp.MustCompile(`^(c|o|)(0|[1-9][0-9]*):([1-9][0-9]*)$`)
	inner = regexp.MustCompile(`(?s)^([a-z]+)\((.*)\)$`)
)

// understood returns the expression with a text, if there is one.
func understood(text string) (api.Expr, bool) {
	if e, ok := understoodPart(text); ok && wellFormed(e) {
		return e, true
	}
	return api.Expr{}, false
}

func understoodPart(text string) (api.Expr, bool) {
	if m := leaf.FindStringSubmatch(text); m != nil {
		n, err := strconv.Atoi(m[2])
		w, err2 := strconv.Atoi(m[3])
		return api.Expr{Op: opOf(m[1]), N: n, W: w}, err == nil && err2 == nil
	}
	m := inner.FindStringSubmatch(text)
	if m == nil || opOf(m[1]) == 0 {
		return api.Expr{}, false
	}
	e := api.Expr{Op: opOf(m[1])}
	for _, part := range split(m[2]) {
		kid, ok := understoodPart(part)
		if !ok {
			return api.Expr{}, false
		}
		e.Kids = append(e.Kids, kid)
		e.W = kid.W
	}
	if rows[e.Op].kids == "vv" {
		e.W = 1
	}
	return e, true
}

func opOf(name string) int {
	for op, r := range rows {
		if r.name == name {
			return op
		}
	}
	return 0
}

// split takes a text apart at the commas outside of parentheses. A text whose parentheses are not in order has parts that are none of an expression.
func split(text string) []string {
	parts, open := []string{""}, 0
	for _, b := range []byte(text) {
		switch b {
		case '(':
			open++
		case ')':
			open--
		}
		if b == ',' && open == 0 {
			parts = append(parts, "")
			continue
		}
		parts[len(parts)-1] += string(rune(b))
	}
	return parts
}

// p returns the expression with a text that is known to be right.
func p(text string) api.Expr {
	e, ok := understood(text)
	if !ok {
		panic(text)
	}
	return e
}

func same(a, b api.Expr) bool {
	return a.Op == b.Op && a.W == b.W && a.N == b.N && slices.EqualFunc(a.Kids, b.Kids, same)
}

// cellsOf finds the cells in the text of an expression.
func cellsOf(e api.Expr) (old, now []int) {
	found := map[string]map[int]bool{"o": {}, "c": {}}
	for _, m := range regexp.MustCompile(`([oc])([0-9]+):`).FindAllStringSubmatch(written(e), -1) {
		n, _ := strconv.Atoi(m[2])
		found[m[1]][n] = true
	}
	for n := range 32 {
		if found["o"][n] {
			old = append(old, n)
		}
		if found["c"][n] {
			now = append(now, n)
		}
	}
	return old, now
}

// changed returns an expression in which each node of a kind is replaced.
func changed(e api.Expr, op int, by func(n api.Expr) api.Expr) api.Expr {
	if e.Op == op {
		return by(e)
	}
	kids := slices.Clone(e.Kids)
	for i := range kids {
		kids[i] = changed(kids[i], op, by)
	}
	e.Kids = kids
	return e
}

func earlier(e api.Expr) api.Expr {
	if !wellFormed(e) {
		return api.Expr{}
	}
	return changed(e, api.OpCell, func(n api.Expr) api.Expr {
		return api.Expr{Op: api.OpOld, W: n.W, N: n.N}
	})
}

func replaced(e api.Expr, set []api.Assign) api.Expr {
	if !wellFormed(e) {
		return api.Expr{}
	}
	wrong := false
	result := changed(e, api.OpCell, func(n api.Expr) api.Expr {
		i := slices.IndexFunc(set, func(a api.Assign) bool { return a.Cell == n.N })
		if i == -1 {
			return n
		}
		wrong = wrong || !wellFormed(set[i].To) || set[i].To.W != n.W
		return set[i].To
	})
	if wrong {
		return api.Expr{}
	}
	return orZero(result)
}

func orZero(e api.Expr) api.Expr {
	if !wellFormed(e) {
		return api.Expr{}
	}
	return e
}

func konst(n, w int) api.Expr { return api.Expr{Op: api.OpConst, W: w, N: n} }

func op(op, w int, kids ...api.Expr) api.Expr { return api.Expr{Op: op, W: w, Kids: kids} }

func isCondition(e api.Expr) bool { return wellFormed(e) && e.W == 1 }

// joined is the conjunction or disjunction of a list.
func joined(list []api.Expr, operator, decisive int) api.Expr {
	var parts []api.Expr
	for _, e := range list {
		if !isCondition(e) {
			return api.Expr{}
		}
		if !same(e, konst(1-decisive, 1)) {
			parts = append(parts, e)
		}
	}
	if slices.ContainsFunc(parts, func(e api.Expr) bool { return same(e, konst(decisive, 1)) }) {
		return konst(decisive, 1)
	}
	if len(parts) == 0 {
		return konst(1-decisive, 1)
	}
	for len(parts) > 1 {
		parts = append([]api.Expr{op(operator, 1, parts[0], parts[1])}, parts[2:]...)
	}
	return orZero(parts[0])
}

func opposite(e api.Expr) api.Expr {
	if e.Op == api.OpNot {
		return e.Kids[0]
	}
	return op(api.OpNot, e.W, e)
}

func implied(a, b api.Expr) api.Expr {
	switch {
	case !isCondition(a), !isCondition(b):
		return api.Expr{}
	case same(a, konst(0, 1)) || same(b, konst(1, 1)):
		return konst(1, 1)
	case same(a, konst(1, 1)):
		return b
	case same(b, konst(0, 1)):
		return orZero(opposite(a))
	}
	return orZero(op(api.OpOr, 1, opposite(a), b))
}

// simple applies the rules of F6.
func simple(e api.Expr) api.Expr {
	if !wellFormed(e) {
		return api.Expr{}
	}
	return simpleOf(e)
}

func simpleOf(e api.Expr) api.Expr {
	kids := slices.Clone(e.Kids)
	for i := range kids {
		kids[i] = simpleOf(kids[i])
	}
	e.Kids = kids
	for _, rule := range []func(e api.Expr) (api.Expr, bool){rule1, rule2, rule3, rule4, rule5, rule6, rule7, rule8, rule9, rule10} {
		if result, applies := rule(e); applies {
			return result
		}
	}
	return e
}

// kidIs reports whether a kid is a constant.
func kidIs(e api.Expr, kid, n int) bool { return same(e.Kids[kid], konst(n, e.Kids[kid].W)) }

func kidIsOnes(e api.Expr, kid int) bool { return kidIs(e, kid, 1<<e.Kids[kid].W-1) }

func twins(e api.Expr) bool { return same(e.Kids[0], e.Kids[1]) }

func rule1(e api.Expr) (api.Expr, bool) {
	for _, kid := range e.Kids {
		if kid.Op != api.OpConst {
			return e, false
		}
	}
	return konst(worthOf(e, nil, nil), e.W), len(e.Kids) > 0
}

func rule2(e api.Expr) (api.Expr, bool) {
	if e.Op == api.OpNot && e.Kids[0].Op == api.OpNot {
		return e.Kids[0].Kids[0], true
	}
	return e, false
}

func rule3(e api.Expr) (api.Expr, bool) {
	switch {
	case e.Op != api.OpAnd:
		return e, false
	case kidIs(e, 0, 0) || kidIs(e, 1, 0):
		return konst(0, e.W), true
	case kidIsOnes(e, 0):
		return e.Kids[1], true
	case kidIsOnes(e, 1):
		return e.Kids[0], true
	}
	return e.Kids[0], twins(e)
}

func rule4(e api.Expr) (api.Expr, bool) {
	switch {
	case e.Op != api.OpOr:
		return e, false
	case kidIsOnes(e, 0) || kidIsOnes(e, 1):
		return konst(1<<e.W-1, e.W), true
	case kidIs(e, 0, 0):
		return e.Kids[1], true
	case kidIs(e, 1, 0):
		return e.Kids[0], true
	}
	return e.Kids[0], twins(e)
}

func rule5(e api.Expr) (api.Expr, bool) {
	switch {
	case e.Op != api.OpXor:
		return e, false
	case kidIs(e, 0, 0):
		return e.Kids[1], true
	case kidIs(e, 1, 0):
		return e.Kids[0], true
	}
	return konst(0, e.W), twins(e)
}

func rule6(e api.Expr) (api.Expr, bool) {
	switch {
	case e.Op != api.OpAdd && e.Op != api.OpSub:
		return e, false
	case e.Op == api.OpAdd && kidIs(e, 0, 0):
		return e.Kids[1], true
	case kidIs(e, 1, 0):
		return e.Kids[0], true
	}
	return konst(0, e.W), e.Op == api.OpSub && twins(e)
}

func rule7(e api.Expr) (api.Expr, bool) {
	switch {
	case e.Op != api.OpMul:
		return e, false
	case kidIs(e, 0, 0) || kidIs(e, 1, 0):
		return konst(0, e.W), true
	case kidIs(e, 0, 1):
		return e.Kids[1], true
	}
	return e.Kids[0], kidIs(e, 1, 1)
}

func rule8(e api.Expr) (api.Expr, bool) {
	switch {
	case e.Op != api.OpEq:
		return e, false
	case twins(e):
		return konst(1, 1), true
	case e.Kids[0].W != 1:
		return e, false
	case kidIs(e, 0, 1):
		return e.Kids[1], true
	case kidIs(e, 1, 1):
		return e.Kids[0], true
	case kidIs(e, 0, 0):
		return opposite(e.Kids[1]), true
	}
	return opposite(e.Kids[0]), kidIs(e, 1, 0)
}

func rule9(e api.Expr) (api.Expr, bool) {
	switch e.Op {
	case api.OpLt:
		return konst(0, 1), twins(e) || kidIs(e, 1, 0)
	case api.OpLe:
		return konst(1, 1), twins(e) || kidIs(e, 0, 0) || kidIsOnes(e, 1)
	}
	return e, false
}

func rule10(e api.Expr) (api.Expr, bool) {
	switch {
	case e.Op != api.OpIte:
		return e, false
	case kidIs(e, 0, 1):
		return e.Kids[1], true
	case kidIs(e, 0, 0):
		return e.Kids[2], true
	case same(e.Kids[1], e.Kids[2]):
		return e.Kids[1], true
	case e.W == 1 && kidIs(e, 1, 1) && kidIs(e, 2, 0):
		return e.Kids[0], true
	}
	return opposite(e.Kids[0]), e.W == 1 && kidIs(e, 1, 0) && kidIs(e, 2, 1)
}
