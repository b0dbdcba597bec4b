// Package rules checks that the program keeps to what its language allows, as far as its text shows it.
package rules

import (
	"bytes"
	"go/ast"
	"go/format"
	"go/parser"
	"go/token"
	"io/fs"
	"os"
	"path/filepath"
	"slices"
	"strconv"
	"strings"
	"testing"
)

const root = ".."

// library is what the program may import of the standard library.
var library = strings.Fields("bytes cmp container/heap errors iter maps math math/bits slices sort strconv strings sync sync/atomic unicode unicode/utf8")

// source is a file of the program.
type source struct {
	name string
	text []byte
	set  *token.FileSet
	tree *ast.File
}

// sources reads the program's own files: neither tests nor those that .ci/run lays beside it.
func sources(t *testing.T) []source {
	t.Helper()
	var list []source
	set := token.NewFileSet()
	err := filepath.WalkDir(root, func(name string, d fs.DirEntry, err error) error {
		if err != nil {
			return err
		}
		if d.IsDir() {
			if d.Name() == "sharedtests" || d.Name() == ".git" {
				return filepath.SkipDir
			}
			return nil
		}
		if !strings.HasSuffix(name, ".go") || strings.HasSuffix(name, "_test.go") {
			return nil
		}
		text, err := os.ReadFile(name)
		if err != nil {
			return err
		}
		tree, err := parser.ParseFile(set, name, text, parser.ParseComments)
		list = append(list, source{name, text, set, tree})
		return err
	})
	if err != nil {
		t.Fatal(err)
	}
	if len(list) < 11 {
		t.Fatalf("only %d files", len(list))
	}
	return list
}

func TestImports(t *testing.T) {
	for _, s := range sources(t) {
		for _, i := range s.tree.Imports {
			path, err := strconv.Unquote(i.Path.Value)
			if err != nil {
				t.Fatal(err)
			}
			if !strings.HasPrefix(path, "conjoin/") && !slices.Contains(library, path) {
				t.Errorf("%s imports %s", s.name, path)
			}
		}
	}
}

func TestLayout(t *testing.T) {
	for _, s := range sources(t) {
		want, err := format.Source(s.text)
		if err != nil || !bytes.Equal(want, s.text) {
			t.Errorf("%s is not as gofmt lays it out: %v", s.name, err)
		}
		for _, g := range s.tree.Comments {
			for _, c := range g.List {
				if strings.HasPrefix(c.Text, "//go:") || strings.HasPrefix(c.Text, "// +build") {
					t.Errorf("%s: %s", s.name, c.Text)
				}
			}
		}
	}
}

func TestLengths(t *testing.T) {
	for _, s := range sources(t) {
		for _, d := range s.tree.Decls {
			f, ok := d.(*ast.FuncDecl)
			if !ok {
				continue
			}
			if n := s.set.Position(f.End()).Line - s.set.Position(f.Pos()).Line + 1; n > 60 {
				t.Errorf("%s: %s has %d lines", s.name, f.Name.Name, n)
			}
		}
	}
}

// TestPackageLevel looks for variables of packages that are no errors and no tables.
func TestPackageLevel(t *testing.T) {
	for _, s := range sources(t) {
		for _, d := range s.tree.Decls {
			g, ok := d.(*ast.GenDecl)
			if !ok || g.Tok != token.VAR {
				continue
			}
			for _, x := range g.Specs {
				v := x.(*ast.ValueSpec)
				if len(v.Values) != len(v.Names) {
					t.Errorf("%s: %s has no value", s.name, v.Names[0].Name)
				}
				for _, value := range v.Values {
					if !isTable(value) && !isError(value) {
						t.Errorf("%s: %s is no table and no error", s.name, v.Names[0].Name)
					}
				}
			}
		}
	}
}

func isTable(x ast.Expr) bool {
	switch y := x.(type) {
	case *ast.BasicLit:
		return y.Kind == token.INT || y.Kind == token.CHAR
	case *ast.CompositeLit:
		_, isMap := y.Type.(*ast.MapType)
		return !isMap
	}
	return false
}

func isError(x ast.Expr) bool {
	c, ok := x.(*ast.CallExpr)
	if !ok || len(c.Args) != 1 {
		return false
	}
	f, ok := c.Fun.(*ast.SelectorExpr)
	if !ok {
		return false
	}
	p, ok := f.X.(*ast.Ident)
	return ok && p.Name == "errors" && f.Sel.Name == "New"
}

// TestFolders looks for names of packages that there may not be, and for files beside the Go files.
func TestFolders(t *testing.T) {
	err := filepath.WalkDir(root, func(name string, d fs.DirEntry, err error) error {
		if err != nil {
			return err
		}
		if d.IsDir() {
			if d.Name() == "sharedtests" || d.Name() == ".git" {
				return filepath.SkipDir
			}
			if d.Name() == "form" || d.Name() == "try" || name != root && strings.HasPrefix(d.Name(), "conjoin") {
				t.Errorf("a folder %s", name)
			}
			return nil
		}
		if kind := filepath.Ext(name); kind == ".s" || kind == ".c" || kind == ".h" || kind == ".sum" {
			t.Errorf("a file %s", name)
		}
		return nil
	})
	if err != nil {
		t.Fatal(err)
	}
}
