package rules

import (
	"go/ast"
	"go/build"
	"go/importer"
	"go/token"
	"go/types"
	"os/exec"
	"strings"
	"testing"
)

// typed are the packages of the program, with the types of what stands in them.
type typed struct {
	sources []source
	info    *types.Info
	done    map[string]*types.Package
	library types.Importer
}

// Import has the packages of the program from its sources, and others from the library's.
func (p *typed) Import(path string) (*types.Package, error) {
	name, own := strings.CutPrefix(path, "conjoin/")
	if !own {
		return p.library.Import(path)
	}
	if p.done[name] != nil {
		return p.done[name], nil
	}
	var err error
	c := types.Config{Importer: p}
	p.done[name], err = c.Check(path, p.sources[0].set, p.trees(name), p.info)
	return p.done[name], err
}

// trees are the files of a package.
func (p *typed) trees(name string) []*ast.File {
	var list []*ast.File
	for _, s := range p.sources {
		if s.tree.Name.Name == name {
			list = append(list, s.tree)
		}
	}
	return list
}

func load(t *testing.T) *typed {
	t.Helper()
	if build.Default.GOROOT == "" {
		out, err := exec.Command("go", "env", "GOROOT").Output()
		if err != nil {
			t.Fatal(err)
		}
		build.Default.GOROOT = strings.TrimSpace(string(out))
	}
	return &typed{
		sources: sources(t),
		info: &types.Info{
			Types:      map[ast.Expr]types.TypeAndValue{},
			Selections: map[*ast.SelectorExpr]*types.Selection{},
			Uses:       map[*ast.Ident]types.Object{},
		},
		done:    map[string]*types.Package{},
		library: importer.ForCompiler(token.NewFileSet(), "source", nil),
	}
}

// TestWays checks that each package that is built has the language features that its chapter asks for.
func TestWays(t *testing.T) {
	p := load(t)
	for name, ways := range map[string]string{
		"gauge":   "array range-function label map method-value generic-function closure panic recover defer array-compared variadic",
		"sherd":   "array map method-expression panic recover defer range-function generic-function closure struct-compared",
		"edge":    "range-function label closure method-value array embedding three-index map struct-compared",
		"probe":   "range-function closure label panic recover defer map generic-function embedding promoted method-value",
		"profile": "array array-compared range-function closure label method-expression map panic recover defer method-value generic-function",
		"join":    "map range-function array embedding promoted label struct-compared panic recover defer generic-function closure method-value",
		"stratum": "map struct-compared method-expression array range-function closure panic recover defer label embedding promoted generic-function",
		"sure":    "range-function array array-compared closure panic recover defer map method-expression label generic-function embedding promoted",
		"whole":   "generic-function closure map struct-compared method-value range-function label embedding promoted array three-index",
	} {
		if _, err := p.Import("conjoin/" + name); err != nil {
			t.Fatal(err)
		}
		got := map[string]bool{}
		for _, tree := range p.trees(name) {
			called := map[ast.Expr]bool{}
			ast.Inspect(tree, func(n ast.Node) bool {
				if c, ok := n.(*ast.CallExpr); ok {
					called[c.Fun] = true
				}
				p.note(n, called, got)
				return true
			})
		}
		for _, w := range strings.Fields(ways) {
			if !got[w] {
				t.Errorf("%s has no %s", name, w)
			}
		}
	}
}

// note says which feature a node is.
func (p *typed) note(n ast.Node, called map[ast.Expr]bool, got map[string]bool) {
	is := func(way string, so bool) { got[way] = got[way] || so }
	switch x := n.(type) {
	case *ast.ArrayType:
		is("array", x.Len != nil)
	case *ast.BranchStmt:
		is("label", x.Label != nil)
	case *ast.MapType:
		is("map", true)
	case *ast.StructType:
		for _, f := range x.Fields.List {
			is("embedding", len(f.Names) == 0)
		}
	case *ast.SliceExpr:
		is("three-index", x.Slice3)
	case *ast.FuncDecl:
		is("generic-function", x.Type.TypeParams != nil)
	case *ast.FuncLit:
		is("closure", true)
	case *ast.DeferStmt:
		is("defer", true)
	case *ast.Ellipsis:
		is("variadic", x.Elt != nil)
	case *ast.Ident:
		if b, ok := p.info.Uses[x].(*types.Builtin); ok {
			is(b.Name(), true)
		}
	case *ast.RangeStmt:
		_, ok := p.info.Types[x.X].Type.Underlying().(*types.Signature)
		is("range-function", ok)
	case *ast.SelectorExpr:
		s := p.info.Selections[x]
		is("method-value", s != nil && s.Kind() == types.MethodVal && !called[x])
		is("method-expression", s != nil && s.Kind() == types.MethodExpr)
		is("promoted", s != nil && len(s.Index()) > 1)
	case *ast.IndexExpr:
		if m, ok := p.info.Types[x.X].Type.Underlying().(*types.Map); ok { // keys are held against each other
			_, isStruct := m.Key().Underlying().(*types.Struct)
			is("struct-compared", isStruct)
		}
	case *ast.BinaryExpr:
		if x.Op == token.EQL || x.Op == token.NEQ {
			_, isArray := p.info.Types[x.X].Type.Underlying().(*types.Array)
			_, isStruct := p.info.Types[x.X].Type.Underlying().(*types.Struct)
			is("array-compared", isArray)
			is("struct-compared", isStruct)
		}
	}
}
