package checks

import (
	"bytes"
	"go/ast"
	"go/format"
	"go/parser"
	"go/token"
	"io/fs"
	"os"
	"path/filepath"
	"slices"
	"strconv"
	"strings"
	"testing"
)

// mostLines is how long a function may be.
const mostLines = 60

// given is the folder in which .ci/run lays the tests that are none of the project's own.
const given = "sharedtests"

// library is what the program may take from Go's own packages.
var library = strings.Fields("bytes cmp container/heap errors iter maps math math/bits slices sort strconv strings sync sync/atomic unicode unicode/utf8")

// calls is the document's map: the layers that each layer calls. What is for tests alone no layer calls.
var calls = map[string]string{
	"api":    "",
	"soft":   "",
	"round":  "soft",
	"elem":   "soft round",
	"shape":  "",
	"tens":   "soft shape",
	"pbuf":   "",
	"onnx":   "pbuf",
	"ops":    "",
	"graph":  "tens onnx ops",
	"infer":  "shape tens ops graph",
	"ewise":  "soft round elem shape tens infer",
	"moves":  "soft shape tens infer ewise",
	"reduce": "soft round elem shape tens infer ewise",
	"mat":    "soft shape tens infer ewise",
	"conv":   "soft shape tens infer ewise mat",
	"denote": "tens graph infer ewise moves reduce mat conv",
	"fold":   "tens graph infer denote",
	"quick":  "soft round shape tens infer ewise conv",
	"bound":  "soft round shape tens graph infer ewise denote quick",
	"plan":   "shape tens graph infer ewise",
	"arena":  "plan",
	"exec":   "shape tens graph ewise denote quick plan arena",
	"run":    "onnx graph infer fold bound plan arena exec",
	"seeds":  "",
	"checks": "",
}

// source is a file of the program.
type source struct {
	path, folder string
	text         []byte
	set          *token.FileSet
	tree         *ast.File
}

// sources are all files of the program that are no tests.
func sources(t *testing.T) []source {
	t.Helper()
	var all []source
	err := filepath.WalkDir("..", func(path string, d fs.DirEntry, err error) error {
		if d != nil && d.IsDir() && d.Name() == given {
			return filepath.SkipDir
		}
		if err != nil || d.IsDir() || !strings.HasSuffix(path, ".go") || strings.HasSuffix(path, "_test.go") {
			return err
		}
		text, err := os.ReadFile(path)
		if err != nil {
			return err
		}
		set := token.NewFileSet()
		tree, err := parser.ParseFile(set, path, text, parser.ParseComments)
		all = append(all, source{path, filepath.Base(filepath.Dir(path)), text, set, tree})
		return err
	})
	if err != nil {
		t.Fatal(err)
	}
	if len(all) < 24 {
		t.Fatalf("only %d files", len(all))
	}
	return all
}

// The imports are those that the language has; a layer takes no layer but those that the map names.
func TestImports(t *testing.T) {
	for _, s := range sources(t) {
		for _, spec := range s.tree.Imports {
			path, _ := strconv.Unquote(spec.Path.Value)
			own, isOwn := strings.CutPrefix(path, "lattice/")
			if !isOwn && !slices.Contains(library, path) {
				t.Errorf("%s: takes %s", s.path, path)
			}
			if isOwn && !mayCall(s.folder, own) {
				t.Errorf("%s: layer %s may not call %s", s.path, s.folder, own)
			}
			if spec.Name != nil && (spec.Name.Name == "." || spec.Name.Name == "_") {
				t.Errorf("%s: %s by the name %s", s.path, path, spec.Name.Name)
			}
		}
	}
}

// mayCall: does the map let the one call the other? What is no layer is free.
func mayCall(from, to string) bool {
	list, layer := calls[from]
	if _, known := calls[to]; !layer || !known || to == "api" {
		return true
	}
	return slices.Contains(strings.Fields(list), to)
}

// The layout is gofmt's, and no function is too long.
func TestLayout(t *testing.T) {
	for _, s := range sources(t) {
		if want, err := format.Source(s.text); err != nil || !bytes.Equal(want, s.text) {
			t.Errorf("%s: not in gofmt's layout", s.path)
		}
		for _, d := range s.tree.Decls {
			f, ok := d.(*ast.FuncDecl)
			if !ok {
				continue
			}
			if n := s.set.Position(f.End()).Line - s.set.Position(f.Pos()).Line + 1; n > mostLines {
				t.Errorf("%s: %s has %d lines", s.path, f.Name.Name, n)
			}
		}
	}
}

// No line speaks to the Go tools, no file is left to a build tag, and no call prints or fills a variable at the start.
func TestNoOrders(t *testing.T) {
	for _, s := range sources(t) {
		for _, g := range s.tree.Comments {
			for _, c := range g.List {
				if strings.HasPrefix(c.Text, "//go:") || strings.HasPrefix(c.Text, "// +build") {
					t.Errorf("%s: %s", s.path, c.Text)
				}
			}
		}
		ast.Inspect(s.tree, func(n ast.Node) bool {
			switch x := n.(type) {
			case *ast.FuncDecl:
				if x.Recv == nil && x.Name.Name == "init" {
					t.Errorf("%s: func init", s.path)
				}
			case *ast.CallExpr:
				if id, ok := x.Fun.(*ast.Ident); ok && (id.Name == "print" || id.Name == "println") {
					t.Errorf("%s: %s", s.path, id.Name)
				}
			}
			return true
		})
	}
}

// Beside the Go files of a package stands no other file.
func TestNoOtherFiles(t *testing.T) {
	for folder := range calls {
		files, err := os.ReadDir(filepath.Join("..", folder))
		if err != nil {
			t.Errorf("layer %s: %v", folder, err)
		}
		for _, f := range files {
			if f.IsDir() || !strings.HasSuffix(f.Name(), ".go") {
				t.Errorf("%s: %s is no Go file", folder, f.Name())
			}
		}
	}
}
