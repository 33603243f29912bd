package frame

import (
	"go/ast"
	"go/parser"
	"go/token"
	"go/types"
	"path/filepath"
	"slices"
	"strings"
	"testing"
)

// positions are those of all files that are read.
var positions = token.NewFileSet()

// ways lists, for each layer that is built, the language features that the document names for it.
var ways = map[string][]string{
	"lexer":   {"array", "constant-table", "label", "method-value"},
	"parser":  {"map", "panic", "defer", "recover"},
	"printer": {"array", "embedding", "variadic", "fallthrough"},
	"resolve": {"map", "range-function", "closure"},
	"typing":  {"closure", "panic", "defer", "recover", "map", "method-expression"},
	"expr":    {"fallthrough", "closure", "generic-function", "array", "range-string"},
}

// features say whether the files of a package use a language feature.
var features = map[string]func(files []*ast.File) bool{
	"array":             usesArray,
	"closure":           usesClosure,
	"constant-table":    usesConstantTable,
	"defer":             usesDefer,
	"embedding":         usesEmbedding,
	"fallthrough":       usesFallthrough,
	"generic-function":  usesGenericFunction,
	"label":             usesLabel,
	"map":               usesMap,
	"method-expression": usesMethodExpression,
	"method-value":      usesMethodValue,
	"panic":             calls("panic"),
	"range-function":    usesRangeFunction,
	"range-string":      usesRangeString,
	"recover":           calls("recover"),
	"variadic":          usesVariadic,
}

func TestWays(t *testing.T) {
	for layer, list := range ways {
		files := sources(t, layer)
		for _, name := range list {
			if !features[name](files) {
				t.Errorf("package %s does not use %s", layer, name)
			}
		}
	}
}

func sources(t *testing.T, layer string) []*ast.File {
	t.Helper()
	paths, err := filepath.Glob(filepath.Join("..", layer, "*.go"))
	if err != nil || len(paths) == 0 {
		t.Fatal(layer, err)
	}
	var files []*ast.File
	for _, path := range paths {
		if strings.HasSuffix(path, "_test.go") {
			continue
		}
		file, err := parser.ParseFile(positions, path, nil, 0)
		if err != nil {
			t.Fatal(err)
		}
		files = append(files, file)
	}
	return files
}

// anywhere reports whether a node of the files has a property.
func anywhere(files []*ast.File, has func(n ast.Node) bool) bool {
	found := false
	for _, file := range files {
		ast.Inspect(file, func(n ast.Node) bool {
			found = found || n != nil && has(n)
			return !found
		})
	}
	return found
}

func usesArray(files []*ast.File) bool {
	return anywhere(files, func(n ast.Node) bool {
		array, ok := n.(*ast.ArrayType)
		return ok && array.Len != nil
	})
}

func usesClosure(files []*ast.File) bool {
	return anywhere(files, func(n ast.Node) bool {
		_, ok := n.(*ast.FuncLit)
		return ok
	})
}

func usesConstantTable(files []*ast.File) bool {
	for _, file := range files {
		for _, d := range file.Decls {
			if g, ok := d.(*ast.GenDecl); ok && g.Tok == token.VAR && isTable(g) {
				return true
			}
		}
	}
	return false
}

// isTable reports whether a declaration writes out the value of a variable.
func isTable(g *ast.GenDecl) bool {
	for _, s := range g.Specs {
		if v, ok := s.(*ast.ValueSpec); ok && len(v.Values) == 1 {
			if _, ok := v.Values[0].(*ast.CompositeLit); ok {
				return true
			}
		}
	}
	return false
}

func usesDefer(files []*ast.File) bool {
	return anywhere(files, func(n ast.Node) bool {
		_, ok := n.(*ast.DeferStmt)
		return ok
	})
}

func usesEmbedding(files []*ast.File) bool {
	return anywhere(files, func(n ast.Node) bool {
		s, ok := n.(*ast.StructType)
		return ok && slices.ContainsFunc(s.Fields.List, func(f *ast.Field) bool { return len(f.Names) == 0 })
	})
}

func usesFallthrough(files []*ast.File) bool {
	return anywhere(files, func(n ast.Node) bool {
		branch, ok := n.(*ast.BranchStmt)
		return ok && branch.Tok == token.FALLTHROUGH
	})
}

func usesGenericFunction(files []*ast.File) bool {
	return anywhere(files, func(n ast.Node) bool {
		f, ok := n.(*ast.FuncType)
		return ok && f.TypeParams != nil
	})
}

// usesRangeString looks for a range over what is a string, as far as a package alone, without those that it imports, shows the types of its expressions.
func usesRangeString(files []*ast.File) bool {
	info := types.Info{Types: map[ast.Expr]types.TypeAndValue{}}
	config := types.Config{Error: func(error) {}}
	config.Check("layer", positions, files, &info)
	return anywhere(files, func(n ast.Node) bool {
		r, ok := n.(*ast.RangeStmt)
		if !ok || info.TypeOf(r.X) == nil {
			return false
		}
		basic, ok := info.TypeOf(r.X).Underlying().(*types.Basic)
		return ok && basic.Info()&types.IsString != 0
	})
}

// usesVariadic looks for a function of the package with any number of parameters.
func usesVariadic(files []*ast.File) bool {
	return anywhere(files, func(n ast.Node) bool {
		f, ok := n.(*ast.FuncType)
		return ok && slices.ContainsFunc(f.Params.List, func(p *ast.Field) bool {
			_, ok := p.Type.(*ast.Ellipsis)
			return ok
		})
	})
}

func usesMap(files []*ast.File) bool {
	return anywhere(files, func(n ast.Node) bool {
		_, ok := n.(*ast.MapType)
		return ok
	})
}

// calls returns the feature that a function is called by its name.
func calls(name string) func(files []*ast.File) bool {
	return func(files []*ast.File) bool {
		return anywhere(files, func(n ast.Node) bool {
			call, ok := n.(*ast.CallExpr)
			if !ok {
				return false
			}
			f, ok := call.Fun.(*ast.Ident)
			return ok && f.Name == name
		})
	}
}

// usesRangeFunction looks for a range over what a function of the package returns, if that is an iterator.
func usesRangeFunction(files []*ast.File) bool {
	iterators := map[string]bool{}
	anywhere(files, func(n ast.Node) bool {
		if f, ok := n.(*ast.FuncDecl); ok && f.Type.Results != nil && isIterator(f.Type.Results.List[0].Type) {
			iterators[f.Name.Name] = true
		}
		return false
	})
	return anywhere(files, func(n ast.Node) bool {
		r, ok := n.(*ast.RangeStmt)
		if !ok {
			return false
		}
		call, ok := r.X.(*ast.CallExpr)
		return ok && iterators[nameOf(call.Fun)]
	})
}

// isIterator reports whether a type is iter.Seq or iter.Seq2 of some types.
func isIterator(e ast.Expr) bool {
	switch e := e.(type) {
	case *ast.IndexExpr:
		return isIterator(e.X)
	case *ast.IndexListExpr:
		return isIterator(e.X)
	case *ast.SelectorExpr:
		return nameOf(e.X) == "iter"
	}
	return false
}

// nameOf returns the name of a function or method, without what stands before it.
func nameOf(e ast.Expr) string {
	switch e := e.(type) {
	case *ast.Ident:
		return e.Name
	case *ast.SelectorExpr:
		return e.Sel.Name
	}
	return ""
}

func usesLabel(files []*ast.File) bool {
	return anywhere(files, func(n ast.Node) bool {
		branch, ok := n.(*ast.BranchStmt)
		return ok && branch.Label != nil
	})
}

// usesMethodValue looks for a method of the package that is selected, but not called.
func usesMethodValue(files []*ast.File) bool {
	methods := map[string]bool{}
	called := map[ast.Expr]bool{}
	anywhere(files, func(n ast.Node) bool {
		switch n := n.(type) {
		case *ast.FuncDecl:
			if n.Recv != nil {
				methods[n.Name.Name] = true
			}
		case *ast.CallExpr:
			called[n.Fun] = true
		}
		return false
	})
	return anywhere(files, func(n ast.Node) bool {
		s, ok := n.(*ast.SelectorExpr)
		return ok && methods[s.Sel.Name] && !called[s]
	})
}

// usesMethodExpression looks for a method that is selected from a type of the package.
func usesMethodExpression(files []*ast.File) bool {
	types := map[string]bool{}
	anywhere(files, func(n ast.Node) bool {
		if t, ok := n.(*ast.TypeSpec); ok {
			types[t.Name.Name] = true
		}
		return false
	})
	return anywhere(files, func(n ast.Node) bool {
		s, ok := n.(*ast.SelectorExpr)
		return ok && types[nameOf(pointedTo(s.X))]
	})
}

// pointedTo returns the type T of a type (*T), and other expressions without parentheses.
func pointedTo(e ast.Expr) ast.Expr {
	e = ast.Unparen(e)
	if star, ok := e.(*ast.StarExpr); ok {
		return star.X
	}
	return e
}
