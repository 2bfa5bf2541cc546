package rules

import (
	"go/ast"
	"go/parser"
	"go/token"
	"os"
	"path/filepath"
	"slices"
	"strconv"
	"strings"
	"testing"
)

// library is what may be imported of Go's own packages.
const library = "bytes cmp container/heap errors iter maps math math/bits slices sort strconv strings sync sync/atomic unicode unicode/utf8"

// below is which layers a layer may call, by the document's map; api it always may.
var below = map[string]string{
	"word":    "",
	"num":     "word",
	"keccak":  "",
	"rlp":     "num",
	"unrlp":   "",
	"field":   "word num",
	"shape":   "word",
	"ssz":     "word num shape",
	"merkle":  "word num keccak shape ssz",
	"tx":      "rlp unrlp field",
	"receipt": "rlp unrlp field tx",
	"fork":    "",
	"legal":   "",
	"frame":   "",
	"channel": "frame",
	"single":  "rlp unrlp field",
	"bits":    "num",
	"column":  "word rlp unrlp field tx bits",
	"span":    "num tx bits column",
	"wrap":    "num rlp unrlp",
	"output":  "word num keccak",
	"state":   "word ssz merkle",
	"layout":  "word state",
	"migrate": "word layout",
	"genesis": "num keccak fork legal output state layout",
	"codec":   "tx receipt fork legal single span wrap output",
}

const longest = 60

// allowed are all paths that a layer may import.
func allowed(layer string) []string {
	l := append(strings.Fields(library), "rescript/api")
	for _, b := range strings.Fields(below[layer]) {
		l = append(l, "rescript/"+b)
	}
	return l
}

func TestLayersKeepToTheLanguage(t *testing.T) {
	for layer := range below {
		entries, err := os.ReadDir(filepath.Join("..", layer))
		if err != nil {
			t.Error(err)
		}
		for _, e := range entries {
			if strings.HasSuffix(e.Name(), "_test.go") {
				continue
			}
			if !strings.HasSuffix(e.Name(), ".go") {
				t.Errorf("%s/%s: no Go file", layer, e.Name())
				continue
			}
			checkFile(t, layer, filepath.Join("..", layer, e.Name()))
		}
	}
}

func checkFile(t *testing.T, layer, path string) {
	t.Helper()
	fset := token.NewFileSet()
	f, err := parser.ParseFile(fset, path, nil, parser.ParseComments)
	if err != nil {
		t.Error(err)
		return
	}
	if f.Name.Name != layer {
		t.Errorf("%s: package %s", path, f.Name.Name)
	}
	checkImports(t, layer, path, f)
	checkComments(t, path, f)
	for _, d := range f.Decls {
		if fn, ok := d.(*ast.FuncDecl); ok {
			lines := fset.Position(fn.End()).Line - fset.Position(fn.Pos()).Line + 1
			if lines > longest {
				t.Errorf("%s: %s has %d lines", path, fn.Name.Name, lines)
			}
		}
	}
}

func checkImports(t *testing.T, layer, path string, f *ast.File) {
	t.Helper()
	may := allowed(layer)
	for _, i := range f.Imports {
		p, err := strconv.Unquote(i.Path.Value)
		if err != nil || !slices.Contains(may, p) {
			t.Errorf("%s imports %s", path, i.Path.Value)
		}
	}
}

func checkComments(t *testing.T, path string, f *ast.File) {
	t.Helper()
	for _, g := range f.Comments {
		for _, c := range g.List {
			if strings.HasPrefix(c.Text, "//go:") || strings.HasPrefix(c.Text, "// +build") {
				t.Errorf("%s: %s", path, c.Text)
			}
		}
	}
}
