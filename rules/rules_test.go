// Package rules holds the program's text against the rules of its language and against the map of its layers.
package rules

import (
	"bytes"
	"go/ast"
	"go/format"
	"go/parser"
	"go/token"
	"os"
	"path/filepath"
	"slices"
	"strings"
	"testing"
)

// layers: the packages from the lowest layer on; each may call those that stand ahead of it.
var layers = []string{
	"api", "bits", "limb", "nat", "digits", "rat", "rtext", "delta", "lin", "atom", "intern", "logic", "sexp", "clause", "smt",
	"net", "prop", "span", "cnf", "encode", "farkas", "simplex", "proof", "search", "compact", "alethe", "check", "verify",
}

// calls: of the layers that are built, those that each may call beside api.
var calls = map[string][]string{
	"api": {}, "bits": {}, "limb": {}, "nat": {"limb"}, "digits": {"limb", "nat"}, "rat": {"limb", "nat"},
	"rtext": {"limb", "nat", "digits", "rat"}, "delta": {"rat"}, "lin": {"rat"}, "atom": {"rat", "rtext", "lin"}, "intern": {},
	"logic": {"intern"}, "sexp": {}, "clause": {"bits"}, "smt": {"rat", "rtext", "lin", "atom", "sexp", "clause"},
	"net": {"rat", "rtext"}, "prop": {"rat", "rtext", "lin", "atom", "logic", "sexp"},
	"span": {"rat", "net"}, "cnf": {"intern", "logic", "clause"},
}

// library: what may be taken of Go's own packages.
var library = []string{
	"bytes", "cmp", "container/heap", "errors", "iter", "maps", "math", "math/bits", "slices", "sort", "strconv", "strings",
	"sync", "sync/atomic", "unicode", "unicode/utf8",
}

const longest = 60

// source is one Go file of the program.
type source struct {
	path string // below the project's folder
	pack string // the folder that it stands in
	text []byte
	tree *ast.File
	set  *token.FileSet
}

func (s source) lines(n ast.Node) int {
	return s.set.Position(n.End()).Line - s.set.Position(n.Pos()).Line + 1
}

// sources: the program's files; tests are left out, for they may use all of Go.
func sources(t *testing.T) []source {
	paths, err := filepath.Glob("../*/*.go")
	if err != nil {
		t.Fatal(err)
	}
	var out []source
	for _, path := range paths {
		if strings.HasSuffix(path, "_test.go") {
			continue
		}
		text, err := os.ReadFile(path)
		if err != nil {
			t.Fatal(err)
		}
		set := token.NewFileSet()
		tree, err := parser.ParseFile(set, path, text, parser.ParseComments)
		if err != nil {
			t.Fatal(err)
		}
		out = append(out, source{path, filepath.Base(filepath.Dir(path)), text, tree, set})
	}
	return out
}

func TestEveryLayerIsThere(t *testing.T) {
	var found []string
	for _, s := range sources(t) {
		found = append(found, s.pack)
		if s.tree.Name.Name != s.pack {
			t.Errorf("%s is of package %s", s.path, s.tree.Name.Name)
		}
	}
	for _, layer := range layers {
		if !slices.Contains(found, layer) {
			t.Errorf("layer %s is missing", layer)
		}
	}
}

func TestImports(t *testing.T) {
	for _, s := range sources(t) {
		for _, spec := range s.tree.Imports {
			path := strings.Trim(spec.Path.Value, `"`)
			own, isOwn := strings.CutPrefix(path, "attest/")
			switch {
			case isOwn && above(own, s.pack):
				t.Errorf("%s calls %s, which isn't below it", s.path, own)
			case !isOwn && !slices.Contains(library, path):
				t.Errorf("%s imports %s", s.path, path)
			case spec.Name != nil && (spec.Name.Name == "." || spec.Name.Name == "_"):
				t.Errorf("%s imports %s as %s", s.path, path, spec.Name.Name)
			}
		}
	}
}

// above: are both layers, and does the one that is called stand no lower than its caller?
func above(called, caller string) bool {
	from, to := slices.Index(layers, caller), slices.Index(layers, called)
	return from >= 0 && to >= from
}

func TestCalls(t *testing.T) {
	for _, s := range sources(t) {
		allowed, built := calls[s.pack]
		for _, spec := range s.tree.Imports {
			called, isOwn := strings.CutPrefix(strings.Trim(spec.Path.Value, `"`), "attest/")
			if isOwn && built && called != "api" && !slices.Contains(allowed, called) {
				t.Errorf("%s calls %s, which the map doesn't say", s.path, called)
			}
		}
	}
}

func TestLayout(t *testing.T) {
	for _, s := range sources(t) {
		want, err := format.Source(s.text)
		if err != nil || !bytes.Equal(s.text, want) {
			t.Errorf("%s isn't in gofmt's layout", s.path)
		}
	}
}

func TestFunctionsAreShort(t *testing.T) {
	for _, s := range sources(t) {
		for _, d := range s.tree.Decls {
			f, ok := d.(*ast.FuncDecl)
			if !ok {
				continue
			}
			if n := s.lines(f); n > longest {
				t.Errorf("%s: %s has %d lines", s.path, f.Name.Name, n)
			}
			if f.Name.Name == "init" {
				t.Errorf("%s has start-up code", s.path)
			}
			if f.Body == nil {
				t.Errorf("%s: %s has no body", s.path, f.Name.Name)
			}
		}
	}
}

func TestNoDirectives(t *testing.T) {
	for _, s := range sources(t) {
		for _, group := range s.tree.Comments {
			for _, c := range group.List {
				if strings.HasPrefix(c.Text, "//go:") || strings.HasPrefix(c.Text, "// +build") {
					t.Errorf("%s: %s", s.path, c.Text)
				}
			}
		}
	}
}

func TestPackageVariablesHaveValues(t *testing.T) {
	for _, s := range sources(t) {
		for _, d := range s.tree.Decls {
			g, ok := d.(*ast.GenDecl)
			if !ok || g.Tok != token.VAR {
				continue
			}
			for _, spec := range g.Specs {
				if v := spec.(*ast.ValueSpec); len(v.Values) != len(v.Names) {
					t.Errorf("%s: %s has no value of its own", s.path, v.Names[0].Name)
				}
			}
		}
	}
}

func TestPackagesHoldGoFilesAlone(t *testing.T) {
	for _, layer := range layers {
		entries, err := os.ReadDir(filepath.Join("..", layer))
		if err != nil {
			t.Fatal(err)
		}
		for _, e := range entries {
			if !strings.HasSuffix(e.Name(), ".go") {
				t.Errorf("%s/%s", layer, e.Name())
			}
		}
	}
}

// TestWaysOfWords: words, limbs and bytes are made of one another by shifts and conversions of fixed width.
func TestWaysOfWords(t *testing.T) {
	kinds := map[string][]string{
		"bits": {"uint8", "uint32", "uint64"}, "limb": {"uint8", "uint32", "uint64"}, "nat": {"uint32", "uint64"},
	}
	shifts, conversions := map[string]int{}, map[string]int{}
	for _, s := range sources(t) {
		countWays(s, shifts, conversions)
	}
	for pack, wanted := range kinds {
		for _, kind := range wanted {
			if conversions[pack+" "+kind] == 0 {
				t.Errorf("%s converts nothing to %s", pack, kind)
			}
		}
		if shifts[pack+" <<"] == 0 || shifts[pack+" >>"] == 0 {
			t.Errorf("%s doesn't shift both ways", pack)
		}
	}
}

// countWays counts a file's operators and its calls of one argument, conversions among them, by package and name.
func countWays(s source, operators, calls map[string]int) {
	ast.Inspect(s.tree, func(n ast.Node) bool {
		switch n := n.(type) {
		case *ast.BinaryExpr:
			operators[s.pack+" "+n.Op.String()]++
		case *ast.CallExpr:
			if name, ok := n.Fun.(*ast.Ident); ok && len(n.Args) == 1 {
				calls[s.pack+" "+name.Name]++
			}
		}
		return true
	})
}

// TestWaysOfKeys: what is the same is found in maps whose keys are structs of the package.
func TestWaysOfKeys(t *testing.T) {
	structs, keys := map[string]bool{}, map[string][]string{}
	for _, s := range sources(t) {
		ast.Inspect(s.tree, func(n ast.Node) bool {
			switch n := n.(type) {
			case *ast.TypeSpec:
				_, isStruct := n.Type.(*ast.StructType)
				structs[s.pack+" "+n.Name.Name] = isStruct
			case *ast.MapType:
				if key, ok := n.Key.(*ast.Ident); ok {
					keys[s.pack] = append(keys[s.pack], s.pack+" "+key.Name)
				}
			}
			return true
		})
	}
	for _, pack := range []string{"atom", "intern", "clause"} {
		if !slices.ContainsFunc(keys[pack], func(key string) bool { return structs[key] }) {
			t.Errorf("%s has no map whose keys are structs", pack)
		}
	}
}

// TestWaysOfClauses: they are found by a struct with an array in it, and put in order.
func TestWaysOfClauses(t *testing.T) {
	arrays, sorted := 0, 0
	for _, s := range sources(t) {
		if s.pack != "clause" {
			continue
		}
		ast.Inspect(s.tree, func(n ast.Node) bool {
			switch n := n.(type) {
			case *ast.StructType:
				for _, f := range n.Fields.List {
					if a, ok := f.Type.(*ast.ArrayType); ok && a.Len != nil {
						arrays++
					}
				}
			case *ast.SelectorExpr:
				if strings.HasPrefix(n.Sel.Name, "Sort") {
					sorted++
				}
			}
			return true
		})
	}
	if arrays == 0 || sorted == 0 {
		t.Errorf("clause has %d arrays in structs and sorts %d times", arrays, sorted)
	}
}

// TestWaysOfFormulas: a formula is gone through with a closure, and counts are ranged over.
func TestWaysOfFormulas(t *testing.T) {
	closures, counts := 0, 0
	for _, s := range sources(t) {
		if s.pack != "logic" {
			continue
		}
		ast.Inspect(s.tree, func(n ast.Node) bool {
			switch n := n.(type) {
			case *ast.FuncLit:
				closures++
			case *ast.RangeStmt:
				if isCount(n.X) {
					counts++
				}
			}
			return true
		})
	}
	if closures == 0 || counts == 0 {
		t.Errorf("logic has %d closures and ranges over %d counts", closures, counts)
	}
}

// TestWaysOfTexts: words of networks' and properties' texts are found in maps, places looked at by closures.
func TestWaysOfTexts(t *testing.T) {
	words, closures := map[string]int{}, map[string]int{}
	for _, s := range sources(t) {
		ast.Inspect(s.tree, func(n ast.Node) bool {
			switch n := n.(type) {
			case *ast.MapType:
				if key, ok := n.Key.(*ast.Ident); ok && key.Name == "string" {
					words[s.pack]++
				}
			case *ast.FuncLit:
				closures[s.pack]++
			}
			return true
		})
	}
	for _, pack := range []string{"net", "prop"} {
		if words[pack] == 0 || closures[pack] == 0 {
			t.Errorf("%s has %d maps of words and %d closures", pack, words[pack], closures[pack])
		}
	}
}

// TestWaysOfParts: the parts' variables lie in a map whose keys are arrays, and clauses are added by closures of any number of literals.
func TestWaysOfParts(t *testing.T) {
	arrays, keys, adders := map[string]bool{}, []string{}, 0
	for _, s := range sources(t) {
		if s.pack != "cnf" {
			continue
		}
		ast.Inspect(s.tree, func(n ast.Node) bool {
			switch n := n.(type) {
			case *ast.TypeSpec:
				a, isArray := n.Type.(*ast.ArrayType)
				arrays[n.Name.Name] = isArray && a.Len != nil
			case *ast.MapType:
				if key, ok := n.Key.(*ast.Ident); ok {
					keys = append(keys, key.Name)
				}
			case *ast.FuncLit:
				if l := n.Type.Params.List; len(l) == 1 {
					if _, ok := l[0].Type.(*ast.Ellipsis); ok {
						adders++
					}
				}
			}
			return true
		})
	}
	if !slices.ContainsFunc(keys, func(key string) bool { return arrays[key] }) || adders == 0 {
		t.Errorf("cnf has maps of %v and %d closures of any number of literals", keys, adders)
	}
}

// isCount: is it a number written out, or what len or a method Len answers?
func isCount(x ast.Expr) bool {
	switch x := x.(type) {
	case *ast.BasicLit:
		return x.Kind == token.INT
	case *ast.CallExpr:
		switch f := x.Fun.(type) {
		case *ast.Ident:
			return f.Name == "len"
		case *ast.SelectorExpr:
			return f.Sel.Name == "Len"
		}
	}
	return false
}
