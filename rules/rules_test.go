// Package rules holds the program's text against the rules of shared/LANGUAGE.md and the map of shared/DOC.md, as far as the text shows them.
package rules

import (
	"bytes"
	"go/ast"
	"go/format"
	"go/parser"
	"go/token"
	"io/fs"
	"os"
	"path/filepath"
	"slices"
	"strconv"
	"strings"
	"testing"
)

const (
	root     = ".."
	mostLong = 60 // lines of a function
)

var library = []string{
	"bytes", "cmp", "container/heap", "errors", "iter", "maps", "math", "math/big", "math/bits", "slices", "sort",
	"strconv", "strings", "sync", "sync/atomic", "unicode", "unicode/utf8",
}

// layers is the map of DOC.md: which layers a layer calls, by their packages.
var layers = map[string]string{
	"api": "", "num": "", "runs": "", "pnum": "", "frame": "num", "packet": "num pnum", "params": "num", "wheel": "",
	"seen": "runs", "rtt": "", "reno": "", "cubic": "", "pace": "", "ledger": "runs", "loss": "rtt reno cubic ledger",
	"send": "runs", "recv": "runs", "credit": "", "streams": "frame send recv credit", "hand": "num params send recv",
	"pack": "frame packet",
	"conn": "pnum frame packet params wheel seen rtt reno cubic pace ledger loss send recv credit streams hand pack",
	"road": "wheel", "world": "conn road", "trace": "frame packet", "shell": "world trace", "trial": "conn world",
}

type source struct {
	path, folder string
	text         []byte
	file         *ast.File
	fset         *token.FileSet
}

// program reads the Go files of the program, without tests and what was laid beside it.
func program(t *testing.T) []source {
	var l []source
	err := filepath.WalkDir(root, func(path string, d fs.DirEntry, err error) error {
		if err != nil {
			return err
		}
		name := d.Name()
		if d.IsDir() {
			if name == "sharedtests" || name == "testdata" || name != root && strings.HasPrefix(name, ".") {
				return fs.SkipDir
			}
			return nil
		}
		if !strings.HasSuffix(name, ".go") || strings.HasSuffix(name, "_test.go") {
			return nil
		}
		text, err := os.ReadFile(path)
		if err != nil {
			return err
		}
		fset := token.NewFileSet()
		file, err := parser.ParseFile(fset, path, text, parser.ParseComments|parser.SkipObjectResolution)
		l = append(l, source{path, filepath.Base(filepath.Dir(path)), text, file, fset})
		return err
	})
	if err != nil {
		t.Fatal(err)
	}
	if len(l) < len(layers) {
		t.Fatalf("%d files of Go, fewer than packages", len(l))
	}
	return l
}

func TestImports(t *testing.T) {
	for _, s := range program(t) {
		for _, im := range s.file.Imports {
			path, _ := strconv.Unquote(im.Path.Value)
			own, isOwn := strings.CutPrefix(path, "portage/")
			if !isOwn {
				if !slices.Contains(library, path) {
					t.Errorf("%s imports %s, which is outside the language", s.path, path)
				}
				continue
			}
			calls, isLayer := layers[s.folder]
			_, toLayer := layers[own]
			if isLayer && toLayer && own != "api" && !slices.Contains(strings.Fields(calls), own) {
				t.Errorf("%s imports %s, which its row of the map does not name", s.path, own)
			}
		}
	}
}

func TestEveryLayerStands(t *testing.T) {
	stands := map[string]bool{}
	for _, s := range program(t) {
		stands[s.folder] = true
		if s.file.Name.Name != s.folder {
			t.Errorf("%s is of package %s", s.path, s.file.Name.Name)
		}
	}
	for name := range layers {
		if !stands[name] {
			t.Errorf("there is no package %s", name)
		}
	}
}

func TestLayout(t *testing.T) {
	for _, s := range program(t) {
		if laid, err := format.Source(s.text); err != nil || !bytes.Equal(laid, s.text) {
			t.Errorf("%s is not in gofmt's layout", s.path)
		}
		for _, group := range s.file.Comments {
			for _, c := range group.List {
				if strings.HasPrefix(c.Text, "//go:") || strings.HasPrefix(c.Text, "// +build") {
					t.Errorf("%s: %s", s.path, c.Text)
				}
			}
		}
		for _, d := range s.file.Decls {
			f, ok := d.(*ast.FuncDecl)
			if !ok {
				continue
			}
			from, to := s.fset.Position(f.Pos()).Line, s.fset.Position(f.End()).Line
			if to-from+1 > mostLong {
				t.Errorf("%s: %s has %d lines", s.path, f.Name.Name, to-from+1)
			}
			if f.Recv == nil && f.Name.Name == "init" {
				t.Errorf("%s has func init", s.path)
			}
		}
	}
}

func TestPackageLevel(t *testing.T) {
	for _, s := range program(t) {
		for _, d := range s.file.Decls {
			g, ok := d.(*ast.GenDecl)
			if !ok || g.Tok != token.VAR {
				continue
			}
			for _, spec := range g.Specs {
				v := spec.(*ast.ValueSpec)
				if len(v.Values) != len(v.Names) {
					t.Errorf("%s: %s has no value of its own", s.path, v.Names[0].Name)
				}
				for _, x := range v.Values {
					checkStart(t, s, v.Names[0].Name, x)
				}
			}
		}
	}
}

// checkStart looks at the starting value of a variable at package level.
func checkStart(t *testing.T, s source, name string, x ast.Expr) {
	ast.Inspect(x, func(n ast.Node) bool {
		switch y := n.(type) {
		case *ast.MapType, *ast.FuncLit:
			t.Errorf("%s: %s holds a map or a function", s.path, name)
		case *ast.CallExpr:
			if f, ok := y.Fun.(*ast.SelectorExpr); !ok || f.Sel.Name != "New" {
				t.Errorf("%s: %s is made by a call", s.path, name)
			}
		}
		return true
	})
}

func TestNothingBesideGoFiles(t *testing.T) {
	for name := range layers {
		l, err := os.ReadDir(filepath.Join(root, name))
		if err != nil {
			t.Fatal(err)
		}
		for _, e := range l {
			if !e.IsDir() && !strings.HasSuffix(e.Name(), ".go") {
				t.Errorf("%s/%s is no file of Go", name, e.Name())
			}
		}
	}
}
