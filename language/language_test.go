package language

import (
	"bytes"
	"go/ast"
	"go/format"
	"go/parser"
	"go/token"
	"io/fs"
	"os"
	"path/filepath"
	"slices"
	"strconv"
	"strings"
	"testing"
)

const (
	root = ".."
	// The rule says some 60.
	maxLines = 70
)

var library = []string{
	"bytes", "cmp", "container/heap", "errors", "iter", "maps", "math", "math/bits", "slices", "sort", "strconv", "strings", "sync", "sync/atomic",
	"unicode", "unicode/utf8",
}

// layers stand in the order of the document's map.
var layers = []string{
	"nat", "zint", "lex", "syntax", "term", "atom", "meter", "arena", "simp", "lower", "raise", "subst", "unit", "limit", "elim", "drive", "ground",
	"periods", "census", "witness", "verdict", "store", "crew", "session",
}

// A source is a Go file of the program; tests may use all of Go and are none.
type source struct {
	path, pack string
	text       []byte
	set        *token.FileSet
	tree       *ast.File
}

func sources(t *testing.T) []source {
	t.Helper()
	var all []source
	walk := func(path string, entry fs.DirEntry, err error) error {
		name := filepath.Base(path)
		switch {
		case err != nil:
			return err
		case entry.IsDir() && (name == ".git" || name == "sharedtests"):
			return filepath.SkipDir
		case entry.IsDir() || !strings.HasSuffix(name, ".go") || strings.HasSuffix(name, "_test.go"):
			return nil
		}
		text, err := os.ReadFile(path)
		if err != nil {
			return err
		}
		set := token.NewFileSet()
		tree, err := parser.ParseFile(set, path, text, parser.ParseComments)
		all = append(all, source{path, filepath.Base(filepath.Dir(path)), text, set, tree})
		return err
	}
	if err := filepath.WalkDir(root, walk); err != nil {
		t.Fatal(err)
	}
	if len(all) < len(layers)+1 {
		t.Fatalf("only %d sources", len(all))
	}
	return all
}

func imports(s source) []string {
	var paths []string
	for _, i := range s.tree.Imports {
		path, _ := strconv.Unquote(i.Path.Value)
		paths = append(paths, path)
	}
	return paths
}

// R8, and the rule of the imports: no math/big and nothing else that isn't listed.
func TestImports(t *testing.T) {
	for _, s := range sources(t) {
		for _, path := range imports(s) {
			if !slices.Contains(library, path) && !strings.HasPrefix(path, "riddle/") {
				t.Errorf("%s imports %s", s.path, path)
			}
		}
	}
}

// A layer calls those below it alone.
func TestLayers(t *testing.T) {
	for _, s := range sources(t) {
		at := slices.Index(layers, s.pack)
		for _, path := range imports(s) {
			below := slices.Index(layers, strings.TrimPrefix(path, "riddle/"))
			if at >= 0 && below >= at {
				t.Errorf("%s imports %s", s.path, path)
			}
		}
	}
}

func TestLayout(t *testing.T) {
	for _, s := range sources(t) {
		laid, err := format.Source(s.text)
		if err != nil || !bytes.Equal(laid, s.text) {
			t.Errorf("%s is not laid out as gofmt does: %v", s.path, err)
		}
	}
}

func TestNoOrdersToTheCompiler(t *testing.T) {
	for _, s := range sources(t) {
		for _, group := range s.tree.Comments {
			for _, c := range group.List {
				if strings.HasPrefix(c.Text, "//go:") || strings.HasPrefix(c.Text, "// +build") {
					t.Errorf("%s: %s", s.path, c.Text)
				}
			}
		}
	}
}

func TestShortFunctions(t *testing.T) {
	for _, s := range sources(t) {
		for _, d := range s.tree.Decls {
			f, ok := d.(*ast.FuncDecl)
			if !ok {
				continue
			}
			if n := s.set.Position(f.End()).Line - s.set.Position(f.Pos()).Line + 1; n > maxLines {
				t.Errorf("%s: %s has %d lines", s.path, f.Name.Name, n)
			}
		}
	}
}

// Beside the Go files stands nothing that would be built.
func TestOnlyGoFiles(t *testing.T) {
	for _, pack := range append([]string{"api"}, layers...) {
		entries, err := os.ReadDir(filepath.Join(root, pack))
		if err != nil {
			t.Error(err)
		}
		for _, e := range entries {
			if !strings.HasSuffix(e.Name(), ".go") {
				t.Errorf("%s/%s", pack, e.Name())
			}
		}
	}
}

// count is how many parts of a package's sources are of a kind.
func count(all []source, pack string, is func(n ast.Node) bool) int {
	count := 0
	for _, s := range all {
		if s.pack != pack {
			continue
		}
		ast.Inspect(s.tree, func(n ast.Node) bool {
			if is(n) {
				count++
			}
			return true
		})
	}
	return count
}

// isLabelled is what leaves or goes on with a loop by its label.
func isLabelled(n ast.Node) bool {
	b, ok := n.(*ast.BranchStmt)
	return ok && b.Tok != token.GOTO && b.Label != nil
}

func fallsThrough(n ast.Node) bool {
	b, ok := n.(*ast.BranchStmt)
	return ok && b.Tok == token.FALLTHROUGH
}

func isClosure(n ast.Node) bool {
	_, ok := n.(*ast.FuncLit)
	return ok
}

// callsItself is a closure that is given the name by which it is called inside.
func callsItself(n ast.Node) bool {
	a, ok := n.(*ast.AssignStmt)
	if !ok || !isClosure(a.Rhs[0]) {
		return false
	}
	name, ok := a.Lhs[0].(*ast.Ident)
	if !ok {
		return false
	}
	calls := false
	ast.Inspect(a.Rhs[0], func(n ast.Node) bool {
		calls = calls || callsBuiltin(name.Name)(n)
		return true
	})
	return calls
}

func isVariadic(n ast.Node) bool {
	e, ok := n.(*ast.Ellipsis)
	return ok && e.Elt != nil
}

func isIota(n ast.Node) bool {
	i, ok := n.(*ast.Ident)
	return ok && i.Name == "iota"
}

func callsBuiltin(name string) func(n ast.Node) bool {
	return func(n ast.Node) bool {
		c, ok := n.(*ast.CallExpr)
		if !ok {
			return false
		}
		f, ok := c.Fun.(*ast.Ident)
		return ok && f.Name == name
	}
}

// isDeferredRecover is a deferred function literal that recovers.
func isDeferredRecover(n ast.Node) bool {
	d, ok := n.(*ast.DeferStmt)
	if !ok {
		return false
	}
	recovers := false
	ast.Inspect(d.Call.Fun, func(n ast.Node) bool {
		recovers = recovers || callsBuiltin("recover")(n)
		return true
	})
	return recovers && isClosure(d.Call.Fun)
}

// switchesOnRecovered is a switch by the type of what was recovered.
func switchesOnRecovered(n ast.Node) bool {
	s, ok := n.(*ast.TypeSwitchStmt)
	if !ok {
		return false
	}
	recovers := false
	ast.Inspect(s.Assign, func(n ast.Node) bool {
		recovers = recovers || callsBuiltin("recover")(n)
		return true
	})
	return recovers
}

// isIterator is the type of a function that can be ranged over.
func isIterator(e ast.Expr) bool {
	switch x := e.(type) {
	case *ast.IndexExpr:
		return isIterator(x.X)
	case *ast.IndexListExpr:
		return isIterator(x.X)
	case *ast.SelectorExpr:
		from, ok := x.X.(*ast.Ident)
		return ok && from.Name == "iter"
	}
	return false
}

// rangesOver tells of the ranges over what a function of the package answers, if that is an iterator.
func rangesOver(all []source, pack string) func(n ast.Node) bool {
	var answer []string
	count(all, pack, func(n ast.Node) bool {
		f, ok := n.(*ast.FuncDecl)
		if ok && f.Type.Results != nil && isIterator(f.Type.Results.List[0].Type) {
			answer = append(answer, f.Name.Name)
		}
		return ok
	})
	return func(n ast.Node) bool {
		r, ok := n.(*ast.RangeStmt)
		if !ok {
			return false
		}
		c, ok := r.X.(*ast.CallExpr)
		if !ok {
			return false
		}
		f, ok := c.Fun.(*ast.Ident)
		return ok && slices.Contains(answer, f.Name)
	}
}

// rangesOverTelling tells of the ranges over what a method of the package answers, if that is an iterator.
func rangesOverTelling(all []source, pack string) func(n ast.Node) bool {
	var answer []string
	count(all, pack, func(n ast.Node) bool {
		f, ok := n.(*ast.FuncDecl)
		if ok && f.Recv != nil && f.Type.Results != nil && isIterator(f.Type.Results.List[0].Type) {
			answer = append(answer, f.Name.Name)
		}
		return ok
	})
	return func(n ast.Node) bool {
		r, ok := n.(*ast.RangeStmt)
		if !ok {
			return false
		}
		c, ok := r.X.(*ast.CallExpr)
		if !ok {
			return false
		}
		f, ok := c.Fun.(*ast.SelectorExpr)
		return ok && slices.Contains(answer, f.Sel.Name)
	}
}

func isMap(n ast.Node) bool {
	_, ok := n.(*ast.MapType)
	return ok
}

// rangesOverMap tells of the ranges over a map that a function of the package is handed, or over what one answers, if that is a map.
func rangesOverMap(all []source, pack string) func(n ast.Node) bool {
	var maps []string
	count(all, pack, func(n ast.Node) bool {
		f, ok := n.(*ast.FuncDecl)
		if !ok {
			return false
		}
		if f.Type.Results != nil && isMap(f.Type.Results.List[0].Type) {
			maps = append(maps, f.Name.Name)
		}
		for _, field := range f.Type.Params.List {
			if isMap(field.Type) {
				maps = append(maps, field.Names[0].Name)
			}
		}
		return true
	})
	return func(n ast.Node) bool {
		r, ok := n.(*ast.RangeStmt)
		if !ok {
			return false
		}
		over := r.X
		if c, ok := over.(*ast.CallExpr); ok {
			over = c.Fun
		}
		name, ok := over.(*ast.Ident)
		return ok && slices.Contains(maps, name.Name)
	}
}

// rangesOverTold tells of the ranges over a list that a variadic function of the package answers.
func rangesOverTold(all []source, pack string) func(n ast.Node) bool {
	var tell []string
	count(all, pack, func(n ast.Node) bool {
		f, ok := n.(*ast.FuncDecl)
		if ok && slices.ContainsFunc(f.Type.Params.List, func(p *ast.Field) bool { return isVariadic(p.Type) }) {
			tell = append(tell, f.Name.Name)
		}
		return ok
	})
	return func(n ast.Node) bool {
		r, ok := n.(*ast.RangeStmt)
		return ok && slices.ContainsFunc(tell, func(name string) bool { return callsBuiltin(name)(r.X) })
	}
}

// isAtomic is a name of package sync/atomic.
func isAtomic(n ast.Node) bool {
	s, ok := n.(*ast.SelectorExpr)
	if !ok {
		return false
	}
	from, ok := s.X.(*ast.Ident)
	return ok && from.Name == "atomic"
}

func isGoroutine(n ast.Node) bool {
	_, ok := n.(*ast.GoStmt)
	return ok
}

// isOfSync tells of a name of package sync.
func isOfSync(name string) func(n ast.Node) bool {
	return func(n ast.Node) bool {
		s, ok := n.(*ast.SelectorExpr)
		if !ok {
			return false
		}
		from, ok := s.X.(*ast.Ident)
		return ok && from.Name == "sync" && s.Sel.Name == name
	}
}

// isSwap is a step that changes a word only if it still is what was seen.
func isSwap(n ast.Node) bool {
	s, ok := n.(*ast.SelectorExpr)
	return ok && strings.HasPrefix(s.Sel.Name, "CompareAndSwap")
}

// hasFunctionField is a struct with a field that is a function.
func hasFunctionField(n ast.Node) bool {
	s, ok := n.(*ast.StructType)
	return ok && slices.ContainsFunc(s.Fields.List, func(f *ast.Field) bool {
		_, is := f.Type.(*ast.FuncType)
		return is
	})
}

// handsOnMethod tells of the calls that are handed a method of the package with its receiver, which they may call later on.
func handsOnMethod(all []source, pack string) func(n ast.Node) bool {
	var methods []string
	count(all, pack, func(n ast.Node) bool {
		f, ok := n.(*ast.FuncDecl)
		if ok && f.Recv != nil {
			methods = append(methods, f.Name.Name)
		}
		return ok
	})
	return func(n ast.Node) bool {
		c, ok := n.(*ast.CallExpr)
		return ok && slices.ContainsFunc(c.Args, func(arg ast.Expr) bool {
			s, is := arg.(*ast.SelectorExpr)
			return is && slices.Contains(methods, s.Sel.Name)
		})
	}
}

// isArrayOfRows is an array, of a length that is fixed, whose elements are lists.
func isArrayOfRows(n ast.Node) bool {
	array, ok := n.(*ast.ArrayType)
	if !ok || array.Len == nil {
		return false
	}
	row, ok := array.Elt.(*ast.ArrayType)
	return ok && row.Len == nil
}

// sortsByClosure is a call that sorts, and is handed a closure.
func sortsByClosure(n ast.Node) bool {
	c, ok := n.(*ast.CallExpr)
	if !ok {
		return false
	}
	s, ok := c.Fun.(*ast.SelectorExpr)
	return ok && strings.HasPrefix(s.Sel.Name, "Sort") && slices.ContainsFunc(c.Args, func(arg ast.Expr) bool { return isClosure(arg) })
}

// goesThroughRows is a labelled loop over what is called rows.
func goesThroughRows(n ast.Node) bool {
	l, ok := n.(*ast.LabeledStmt)
	if !ok {
		return false
	}
	r, ok := l.Stmt.(*ast.RangeStmt)
	if !ok {
		return false
	}
	name, ok := r.X.(*ast.Ident)
	return ok && name.Name == "rows"
}

// rangesOverNumber tells of the ranges over a number that a function of the package is handed.
func rangesOverNumber(all []source, pack string) func(n ast.Node) bool {
	var numbers []string
	count(all, pack, func(n ast.Node) bool {
		field, ok := n.(*ast.Field)
		if !ok {
			return false
		}
		kind, ok := field.Type.(*ast.Ident)
		for _, name := range field.Names {
			if ok && kind.Name == "int" {
				numbers = append(numbers, name.Name)
			}
		}
		return ok
	})
	return func(n ast.Node) bool {
		r, ok := n.(*ast.RangeStmt)
		if !ok {
			return false
		}
		name, ok := r.X.(*ast.Ident)
		return ok && slices.Contains(numbers, name.Name)
	}
}

// isOverFunctions tells of a function that is handed functions.
func isOverFunctions(n ast.Node) bool {
	f, ok := n.(*ast.FuncDecl)
	return ok && slices.ContainsFunc(f.Type.Params.List, func(field *ast.Field) bool {
		_, is := field.Type.(*ast.FuncType)
		return is
	})
}

// The document's section 'Ways' says which of the language's ways each layer leans on.
func TestWays(t *testing.T) {
	all := sources(t)
	for _, c := range []struct {
		pack, way string
		is        func(n ast.Node) bool
	}{
		{"nat", "a loop that a label leaves", isLabelled},
		{"zint", "a variadic call", isVariadic},
		{"zint", "a closure", isClosure},
		{"lex", "iota", isIota},
		{"lex", "a range over a function", rangesOver(all, "lex")},
		{"syntax", "a panic", callsBuiltin("panic")},
		{"syntax", "a recover in a deferred function", isDeferredRecover},
		{"term", "a map", isMap},
		{"term", "a range over a map", rangesOverMap(all, "term")},
		{"atom", "a case that falls through", fallsThrough},
		{"meter", "an atomic word", isAtomic},
		{"meter", "one atomic step", isSwap},
		{"arena", "a map", isMap},
		{"arena", "a delete from it", callsBuiltin("delete")},
		{"simp", "a closure that calls itself", callsItself},
		{"simp", "a loop that a label leaves", isLabelled},
		{"lower", "a closure that calls itself", callsItself},
		{"lower", "a case that falls through", fallsThrough},
		{"raise", "a function value in a field", hasFunctionField},
		{"subst", "a closure that calls itself", callsItself},
		{"subst", "a method value that is handed on", handsOnMethod(all, "subst")},
		{"unit", "a variadic call", isVariadic},
		{"unit", "a range over what a variadic call tells", rangesOverTold(all, "unit")},
		{"limit", "an array of rows", isArrayOfRows},
		{"limit", "a closure that sorts", sortsByClosure},
		{"elim", "a function value in a field", hasFunctionField},
		{"drive", "iota", isIota},
		{"drive", "a loop that a label goes on with", isLabelled},
		{"ground", "a labelled loop over rows", goesThroughRows},
		{"ground", "a loop that a label leaves", isLabelled},
		{"periods", "a copy", callsBuiltin("copy")},
		{"periods", "a range over a whole number", rangesOverNumber(all, "periods")},
		{"census", "a range over a whole number", rangesOverNumber(all, "census")},
		{"census", "a closure", isClosure},
		{"census", "a function over functions", isOverFunctions},
		{"witness", "a range over a function", rangesOver(all, "witness")},
		{"witness", "a closure", isClosure},
		{"verdict", "a panic", callsBuiltin("panic")},
		{"verdict", "a recover in a deferred function", isDeferredRecover},
		{"verdict", "a type switch on what was recovered", switchesOnRecovered},
		{"store", "a map", isMap},
		{"store", "a delete from it", callsBuiltin("delete")},
		{"store", "a range over a function", rangesOverTelling(all, "store")},
		{"crew", "a goroutine", isGoroutine},
		{"crew", "a WaitGroup", isOfSync("WaitGroup")},
		{"crew", "an atomic word", isAtomic},
		{"crew", "a Once", isOfSync("Once")},
	} {
		if count(all, c.pack, c.is) == 0 {
			t.Errorf("%s: nowhere is %s", c.pack, c.way)
		}
	}
}
