// Package rules holds the program's sources against the rules of its language.
package rules

import (
	"go/ast"
	"go/format"
	"go/parser"
	"go/token"
	"os"
	"path/filepath"
	"slices"
	"strings"
	"testing"
)

const library = " bytes cmp container/heap errors iter maps math math/bits slices sort strconv strings sync sync/atomic unicode unicode/utf8 "

const longest = 60 // lines of a function

// layers is the packages of the map, the lowest first: each may call those ahead of it alone.
const layers = "api wide ratio plane segm ring rel fault enc frame disk slots pool wal vault heap opclass gist scan curve sorter hull join model stage index db replay audit script shell"

// sources calls do for each source file of the program that is no test.
func sources(t *testing.T, do func(fset *token.FileSet, name string, f *ast.File)) {
	t.Helper()
	for _, layer := range strings.Fields(layers) {
		names, err := filepath.Glob("../" + layer + "/*.go")
		if err != nil || len(names) == 0 {
			t.Fatal("no sources of ", layer, ": ", err)
		}
		for _, name := range names {
			if strings.HasSuffix(name, "_test.go") {
				continue
			}
			fset := token.NewFileSet()
			f, err := parser.ParseFile(fset, name, nil, parser.ParseComments)
			if err != nil {
				t.Fatal(err)
			}
			do(fset, name, f)
		}
	}
}

func TestImports(t *testing.T) {
	sources(t, func(fset *token.FileSet, name string, f *ast.File) {
		for _, i := range f.Imports {
			path := strings.Trim(i.Path.Value, `"`)
			if !strings.HasPrefix(path, "pergola/") && !strings.Contains(library, " "+path+" ") {
				t.Errorf("%s imports %s", name, path)
			}
		}
		for _, group := range f.Comments {
			for _, c := range group.List {
				if strings.HasPrefix(c.Text, "//go:") || strings.HasPrefix(c.Text, "// +build") {
					t.Errorf("%s: %s", name, c.Text)
				}
			}
		}
	})
}

func TestLayers(t *testing.T) {
	place := func(name string) int { return slices.Index(strings.Fields(layers), name) }
	sources(t, func(fset *token.FileSet, name string, f *ast.File) {
		own := place(filepath.Base(filepath.Dir(name)))
		for _, i := range f.Imports {
			path, isOurs := strings.CutPrefix(strings.Trim(i.Path.Value, `"`), "pergola/")
			if below := place(path); isOurs && (below < 0 || below >= own) {
				t.Errorf("%s imports %s", name, path)
			}
		}
	})
}

func TestFunctionsAreShort(t *testing.T) {
	sources(t, func(fset *token.FileSet, name string, f *ast.File) {
		for _, d := range f.Decls {
			fn, ok := d.(*ast.FuncDecl)
			if !ok {
				continue
			}
			if lines := fset.Position(fn.End()).Line - fset.Position(fn.Pos()).Line + 1; lines > longest {
				t.Errorf("%s: %s has %d lines", name, fn.Name.Name, lines)
			}
			if fn.Name.Name == "init" {
				t.Errorf("%s has an init", name)
			}
		}
	})
}

func TestLayout(t *testing.T) {
	sources(t, func(fset *token.FileSet, name string, f *ast.File) {
		text, err := os.ReadFile(name)
		if err != nil {
			t.Fatal(err)
		}
		if laid, err := format.Source(text); err != nil || string(laid) != string(text) {
			t.Errorf("%s is not laid out by gofmt", name)
		}
	})
}

// TestPackageLevel lets variables stand at package level only where their value is a literal of a slice or an array, or errors.New of a text.
func TestPackageLevel(t *testing.T) {
	sources(t, func(fset *token.FileSet, name string, f *ast.File) {
		for _, d := range f.Decls {
			g, ok := d.(*ast.GenDecl)
			if !ok || g.Tok != token.VAR {
				continue
			}
			for _, s := range g.Specs {
				v := s.(*ast.ValueSpec)
				if len(v.Values) != len(v.Names) {
					t.Errorf("%s: %s has no value", name, v.Names[0].Name)
				}
				for _, value := range v.Values {
					if !mayStand(value) {
						t.Errorf("%s: %s may not stand at package level", name, v.Names[0].Name)
					}
				}
			}
		}
	})
}

func mayStand(value ast.Expr) bool {
	switch x := value.(type) {
	case *ast.CompositeLit:
		_, isMap := x.Type.(*ast.MapType)
		return !isMap
	case *ast.CallExpr:
		s, ok := x.Fun.(*ast.SelectorExpr)
		return ok && s.Sel.Name == "New" && len(x.Args) == 1
	}
	return false
}

// TestMaps finds maps whose values are bools or strings.
func TestMaps(t *testing.T) {
	sources(t, func(fset *token.FileSet, name string, f *ast.File) {
		ast.Inspect(f, func(n ast.Node) bool {
			if m, ok := n.(*ast.MapType); ok {
				if v, ok := m.Value.(*ast.Ident); ok && (v.Name == "bool" || v.Name == "string") {
					t.Errorf("%s: a map of %ss", name, v.Name)
				}
			}
			return true
		})
	})
}
