package language

import (
	"bytes"
	"go/ast"
	"go/format"
	"go/parser"
	"go/token"
	"io/fs"
	"os"
	"path/filepath"
	"slices"
	"strconv"
	"strings"
	"testing"
)

const (
	root = ".."
	// The rule says some 60.
	maxLines = 70
)

var library = []string{
	"bytes", "cmp", "container/heap", "errors", "iter", "maps", "math", "math/bits", "slices", "sort", "strconv", "strings", "sync", "sync/atomic",
	"unicode", "unicode/utf8",
}

// layers stand in the order of the document's map.
var layers = []string{
	"nat", "zint", "lex", "syntax", "term", "atom", "meter", "arena", "simp", "lower", "raise", "subst", "unit", "limit", "elim", "drive", "ground",
	"periods", "census", "witness", "verdict", "store", "crew", "session",
}

// A source is a Go file of the program; tests may use all of Go and are none.
type source struct {
	path, pack string
	text       []byte
	set        *token.FileSet
	tree       *ast.File
}

func sources(t *testing.T) []source {
	t.Helper()
	var all []source
	walk := func(path string, entry fs.DirEntry, err error) error {
		name := filepath.Base(path)
		switch {
		case err != nil:
			return err
		case entry.IsDir() && (name == ".git" || name == "sharedtests"):
			return filepath.SkipDir
		case entry.IsDir() || !strings.HasSuffix(name, ".go") || strings.HasSuffix(name, "_test.go"):
			return nil
		}
		text, err := os.ReadFile(path)
		if err != nil {
			return err
		}
		set := token.NewFileSet()
		tree, err := parser.ParseFile(set, path, text, parser.ParseComments)
		all = append(all, source{path, filepath.Base(filepath.Dir(path)), text, set, tree})
		return err
	}
	if err := filepath.WalkDir(root, walk); err != nil {
		t.Fatal(err)
	}
	if len(all) < len(layers)+1 {
		t.Fatalf("only %d sources", len(all))
	}
	return all
}

func imports(s source) []string {
	var paths []string
	for _, i := range s.tree.Imports {
		path, _ := strconv.Unquote(i.Path.Value)
		paths = append(paths, path)
	}
	return paths
}

// R8, and the rule of the imports: no math/big and nothing else that isn't listed.
func TestImports(t *testing.T) {
	for _, s := range sources(t) {
		for _, path := range imports(s) {
			if !slices.Contains(library, path) && !strings.HasPrefix(path, "riddle/") {
				t.Errorf("%s imports %s", s.path, path)
			}
		}
	}
}

// A layer calls those below it alone.
func TestLayers(t *testing.T) {
	for _, s := range sources(t) {
		at := slices.Index(layers, s.pack)
		for _, path := range imports(s) {
			below := slices.Index(layers, strings.TrimPrefix(path, "riddle/"))
			if at >= 0 && below >= at {
				t.Errorf("%s imports %s", s.path, path)
			}
		}
	}
}

func TestLayout(t *testing.T) {
	for _, s := range sources(t) {
		laid, err := format.Source(s.text)
		if err != nil || !bytes.Equal(laid, s.text) {
			t.Errorf("%s is not laid out as gofmt does: %v", s.path, err)
		}
	}
}

func TestNoOrdersToTheCompiler(t *testing.T) {
	for _, s := range sources(t) {
		for _, group := range s.tree.Comments {
			for _, c := range group.List {
				if strings.HasPrefix(c.Text, "//go:") || strings.HasPrefix(c.Text, "// +build") {
					t.Errorf("%s: %s", s.path, c.Text)
				}
			}
		}
	}
}

func TestShortFunctions(t *testing.T) {
	for _, s := range sources(t) {
		for _, d := range s.tree.Decls {
			f, ok := d.(*ast.FuncDecl)
			if !ok {
				continue
			}
			if n := s.set.Position(f.End()).Line - s.set.Position(f.Pos()).Line + 1; n > maxLines {
				t.Errorf("%s: %s has %d lines", s.path, f.Name.Name, n)
			}
		}
	}
}

// Beside the Go files stands nothing that would be built.
func TestOnlyGoFiles(t *testing.T) {
	for _, pack := range append([]string{"api"}, layers...) {
		entries, err := os.ReadDir(filepath.Join(root, pack))
		if err != nil {
			t.Error(err)
		}
		for _, e := range entries {
			if !strings.HasSuffix(e.Name(), ".go") {
				t.Errorf("%s/%s", pack, e.Name())
			}
		}
	}
}

// labels counts, in a package, what leaves or goes on with a loop by its label.
func labels(all []source, pack string) int {
	count := 0
	for _, s := range all {
		if s.pack != pack {
			continue
		}
		ast.Inspect(s.tree, func(n ast.Node) bool {
			if b, ok := n.(*ast.BranchStmt); ok && b.Tok != token.GOTO && b.Label != nil {
				count++
			}
			return true
		})
	}
	return count
}

func TestWaysOfNat(t *testing.T) {
	if labels(sources(t), "nat") == 0 {
		t.Error("nat: no loop is left by a label")
	}
}
