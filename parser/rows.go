package parser

import "relyguard/api"

// rowOf returns the row of a node. Where a row has parts that may be missing, it is chosen by whether they are.
func rowOf(n api.Node) row {
	switch {
	case isExpr(n):
		return expressionRow(n)
	case isStatement(n) || n.Kind == api.NodeBlock:
		return statementRow(n)
	case isDeclaration(n):
		return declarationRow(n)
	}
	switch n.Kind {
	case api.NodeField, api.NodeParam:
		return row{name: aName, number: maxNumber}
	case api.NodeModule:
		return row{name: aName, other: aName, more: []property{isDeclaration}}
	case api.NodeThread:
		return row{name: aName, other: aPath, number: 1, more: []property{isNumber}}
	case api.NodeSource:
		return row{more: []property{isUnit}}
	}
	return row{} // of NodeNone, since the kids of all rows are of a known kind
}

func expressionRow(n api.Node) row {
	switch n.Kind {
	case api.NodeNumber:
		return row{number: maxNumber}
	case api.NodeRef:
		if len(n.Kids) == 0 {
			return row{name: aPath}
		}
		return row{name: aPath, kids: []property{isExpr}}
	case api.NodeOld:
		return row{kids: []property{isRef}}
	case api.NodeNot:
		return row{kids: []property{isExpr}}
	case api.NodeBinary:
		return row{name: anOperator, kids: []property{isExpr, isExpr}}
	case api.NodeCond:
		return row{kids: []property{isExpr, isExpr, isExpr}}
	}
	return row{name: aName, number: maxNumber, kids: []property{isExpr}}
}

func statementRow(n api.Node) row {
	set := []property{isRef, isExpr}
	switch n.Kind {
	case api.NodeAssert, api.NodeAwait:
		return row{kids: []property{isExpr}}
	case api.NodeAssign:
		return row{number: 1, kids: set, more: set}
	case api.NodeAtomic:
		return row{kids: []property{isMaybeExpr}, more: set}
	case api.NodeCas:
		return row{kids: []property{isRef, isExpr, isExpr, isRef}, more: set}
	case api.NodeAcquire, api.NodeFree:
		return row{name: aPath}
	case api.NodeSpawn, api.NodeJoin:
		return row{name: aName}
	case api.NodeIf:
		return row{kids: []property{isExpr, isBlock, isBlock}}
	case api.NodeWhile:
		return row{kids: []property{isExpr, isMaybeExpr, isBlock}}
	case api.NodeCall:
		return row{name: aPath, more: []property{isExpr}}
	case api.NodeBlock:
		return row{more: []property{isStatement}}
	case api.NodeLocal:
		return row{name: aName, number: maxNumber, ghost: true}
	}
	return row{}
}

func declarationRow(n api.Node) row {
	switch n.Kind {
	case api.NodeShared:
		if n.Other == "" {
			return row{name: aName, number: maxNumber, len: maxNumber, init: maxNumber, ghost: true}
		}
		return row{name: aName, other: aName, len: maxNumber, init: maxNumber, ghost: true}
	case api.NodeRecord:
		return row{name: aName, more: []property{isField}}
	case api.NodeLock:
		return row{name: aName, kids: []property{isExpr}}
	case api.NodeFrame:
		return row{kids: []property{isVariable}, more: []property{isVariable}}
	case api.NodeProc:
		if n.Other == "" {
			return row{name: aName, more: []property{isParam}, last: []property{isBlock}}
		}
		return row{name: aName, other: aName, more: []property{isParam}, last: []property{isBlock}}
	}
	return row{kids: []property{isExpr}}
}

func isExpr(n api.Node) bool { return n.Kind >= api.NodeNumber && n.Kind <= api.NodeSome }

func isNumber(n api.Node) bool { return n.Kind == api.NodeNumber }

func isRef(n api.Node) bool { return n.Kind == api.NodeRef }

// isVariable is for a ref without an index.
func isVariable(n api.Node) bool { return isRef(n) && len(n.Kids) == 0 }

// isMaybeExpr is for an expression that may be missing.
func isMaybeExpr(n api.Node) bool { return isExpr(n) || n.Kind == api.NodeNone }

func isStatement(n api.Node) bool {
	return n.Kind >= api.NodeAssert && n.Kind <= api.NodeLocal && !isBlock(n)
}

func isBlock(n api.Node) bool { return n.Kind == api.NodeBlock }

func isDeclaration(n api.Node) bool {
	return n.Kind >= api.NodeShared && n.Kind <= api.NodeProc && !isField(n)
}

func isField(n api.Node) bool { return n.Kind == api.NodeField }

func isParam(n api.Node) bool { return n.Kind == api.NodeParam }

// isUnit is for a module or a thread.
func isUnit(n api.Node) bool { return n.Kind == api.NodeModule || n.Kind == api.NodeThread }
