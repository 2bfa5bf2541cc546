package rules

import (
	"go/ast"
	"go/importer"
	"go/parser"
	"go/token"
	"go/types"
	"path/filepath"
	"slices"
	"strings"
	"testing"
)

// ways are those of the language that each built layer leans on, by the document's section 'Ways'.
var ways = map[string]string{
	"word":    "range-integer range-function array-compared",
	"num":     "range-function closure",
	"keccak":  "constant-table range-function chunks",
	"rlp":     "recursive-closure variadic panic recovered",
	"unrlp":   "range-function of-two method-value",
	"field":   "generic-function handed-function variadic",
	"shape":   "function-field structs-in-map range-function generic-function",
	"ssz":     "range-function panic recovered closure",
	"merkle":  "chunks range-function of-two closures-in-map",
	"tx":      "range-function generic-function handed-function panic recovered map",
	"receipt": "method-value wraps errors-as generic-function",
	"fork":    "searched range-function of-two",
	"legal":   "struct-keys range-function sorted",
	"frame":   "range-function of-two variadic",
	"channel": "searched inserted method-expression",
}

func TestLayersLeanOnTheirWays(t *testing.T) {
	fset := token.NewFileSet()
	source := importer.ForCompiler(fset, "source", nil)
	for layer, wanted := range ways {
		got := waysOf(t, fset, source, layer)
		for _, way := range strings.Fields(wanted) {
			if !got[way] {
				t.Errorf("%s has no %s", layer, way)
			}
		}
	}
}

// waysOf tells which ways stand in a layer's own files, those of its tests aside.
func waysOf(t *testing.T, fset *token.FileSet, source types.Importer, layer string) map[string]bool {
	t.Helper()
	paths, err := filepath.Glob(filepath.Join("..", layer, "*.go"))
	if err != nil {
		t.Fatal(err)
	}
	var files []*ast.File
	for _, path := range paths {
		if strings.HasSuffix(path, "_test.go") {
			continue
		}
		f, err := parser.ParseFile(fset, path, nil, 0)
		if err != nil {
			t.Fatal(err)
		}
		files = append(files, f)
	}
	info := &types.Info{Types: map[ast.Expr]types.TypeAndValue{}, Selections: map[*ast.SelectorExpr]*types.Selection{}}
	config := types.Config{Importer: source}
	if _, err := config.Check("rescript/"+layer, fset, files, info); err != nil {
		t.Fatal(err)
	}
	got := map[string]bool{}
	for _, f := range files {
		ast.Inspect(f, func(n ast.Node) bool {
			for _, way := range strings.Fields(wayOf(n, info)) {
				got[way] = true
			}
			return true
		})
	}
	return got
}

// wayOf names the way, or ways, that a part of a file is; most are none.
func wayOf(n ast.Node, info *types.Info) string {
	switch x := n.(type) {
	case *ast.AssignStmt:
		// A literal that is answered at once is the function of a range: no closure that tells.
		if literal, ok := x.Rhs[0].(*ast.FuncLit); ok {
			if names(literal.Body, types.ExprString(x.Lhs[0])) {
				return "recursive-closure"
			}
			return "closure"
		}
	case *ast.FuncDecl:
		if x.Type.TypeParams != nil {
			return "generic-function" + handed(x, info)
		}
		if x.Recv != nil && x.Name.Name == "Unwrap" {
			return "wraps"
		}
	case *ast.Ellipsis:
		// One without a type is an array's: its length is counted.
		if x.Elt != nil {
			return "variadic"
		}
	case *ast.CallExpr:
		return wayOfCall(x, info)
	case *ast.CompositeLit:
		if m, ok := info.TypeOf(x).Underlying().(*types.Map); ok {
			return waysOfMap(x, m)
		}
	case *ast.DeferStmt:
		if literal, ok := x.Call.Fun.(*ast.FuncLit); ok && names(literal.Body, "recover") {
			return "recovered"
		}
	case *ast.ValueSpec:
		if isArrayLiteral(x, info) {
			return "constant-table"
		}
	case *ast.RangeStmt:
		// Blocks that the library cuts are no range over a function of the layer's own.
		if call, ok := x.X.(*ast.CallExpr); ok && types.ExprString(call.Fun) == "slices.Chunk" {
			return "chunks"
		}
		switch r := info.TypeOf(x.X).Underlying().(type) {
		case *types.Signature:
			if x.Value != nil {
				return "range-function of-two"
			}
			return "range-function"
		case *types.Basic:
			if r.Info()&types.IsInteger != 0 {
				return "range-integer"
			}
		}
	case *ast.SelectorExpr:
		if s := info.Selections[x]; s != nil && s.Kind() == types.MethodExpr {
			return "method-expression"
		}
	case *ast.BinaryExpr:
		if _, ok := info.TypeOf(x.X).Underlying().(*types.Array); ok && (x.Op == token.EQL || x.Op == token.NEQ) {
			return "array-compared"
		}
	}
	return ""
}

// waysOfMap names the ways that a map is that is written out.
func waysOfMap(literal *ast.CompositeLit, m *types.Map) string {
	ways := "map"
	if isStruct(m.Key()) {
		ways += " struct-keys"
	}
	switch {
	case isStruct(m.Elem()):
		ways += " structs-in-map"
	case slices.ContainsFunc(literal.Elts, isClosureAtKey):
		ways += " closures-in-map"
	}
	return ways
}

// wayOfCall names the way that a call is.
func wayOfCall(call *ast.CallExpr, info *types.Info) string {
	switch types.ExprString(call.Fun) {
	case "panic":
		return "panic"
	case "errors.As":
		return "errors-as"
	case "slices.Sort", "slices.SortFunc", "slices.Sorted":
		return "sorted"
	case "slices.Insert":
		return "inserted"
	case "sort.Search", "sort.Find":
		if slices.ContainsFunc(call.Args, isClosure) {
			return "searched"
		}
	}
	if isFunctionField(call.Fun, info) {
		return "function-field"
	}
	if slices.ContainsFunc(call.Args, func(arg ast.Expr) bool { return isMethodValue(arg, info) }) {
		return "method-value"
	}
	return ""
}

// names tells whether a name stands anywhere in a part of a file.
func names(n ast.Node, name string) bool {
	found := false
	ast.Inspect(n, func(n ast.Node) bool {
		id, ok := n.(*ast.Ident)
		found = found || ok && id.Name == name
		return true
	})
	return found
}

// handed names the way of a function that is handed another one.
func handed(f *ast.FuncDecl, info *types.Info) string {
	for _, arg := range f.Type.Params.List {
		if _, ok := info.TypeOf(arg.Type).Underlying().(*types.Signature); ok {
			return " handed-function"
		}
	}
	return ""
}

// isMethodValue tells whether what is handed on is a method of a value.
func isMethodValue(arg ast.Expr, info *types.Info) bool {
	x, ok := arg.(*ast.SelectorExpr)
	return ok && info.Selections[x] != nil && info.Selections[x].Kind() == types.MethodVal
}

// isFunctionField tells whether what is called is a field of a struct.
func isFunctionField(called ast.Expr, info *types.Info) bool {
	x, ok := called.(*ast.SelectorExpr)
	return ok && info.Selections[x] != nil && info.Selections[x].Kind() == types.FieldVal
}

func isStruct(t types.Type) bool {
	_, ok := t.Underlying().(*types.Struct)
	return ok
}

// isClosureAtKey tells whether what stands in a map is a function that is written out there.
func isClosureAtKey(e ast.Expr) bool {
	at, ok := e.(*ast.KeyValueExpr)
	return ok && isClosure(at.Value)
}

// isClosure tells whether it is a function that is written out on the spot.
func isClosure(e ast.Expr) bool {
	_, ok := e.(*ast.FuncLit)
	return ok
}

// isArrayLiteral tells whether a variable's value is an array that is written out.
func isArrayLiteral(v *ast.ValueSpec, info *types.Info) bool {
	if len(v.Values) != 1 {
		return false
	}
	literal, ok := v.Values[0].(*ast.CompositeLit)
	if !ok {
		return false
	}
	_, ok = info.TypeOf(literal).Underlying().(*types.Array)
	return ok
}
