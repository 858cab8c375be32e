// Package rules holds the program's own code against the rules that hold in all layers.
package rules

import (
	"bytes"
	"go/ast"
	"go/format"
	"go/parser"
	"go/token"
	"io/fs"
	"os"
	"path/filepath"
	"strconv"
	"strings"
	"testing"
)

const (
	root   = ".."
	module = "smithy/"
)

// library are the packages of the library that the program may use.
const library = " bytes cmp container/heap errors iter maps math math/bits slices sort strconv strings sync sync/atomic unicode unicode/utf8 "

// calls says which packages a layer may call, beside api. Packages front, prim, build and rounds are no layers: they have what
// several have in common, and call no more than the lowest of these may.
func calls() map[string]string {
	return map[string]string{
		"api": "", "big": "", "world": "", "lex": "big", "syntax": "big lex", "types": "big syntax front", "source": "big world front prim", "core": "big world prim", "elab": "big core front", "match": "big core",
		"flow": "big world prim", "close": "core flow", "opt": "big flow", "word": "world rounds", "heap": "", "gcrt": "build", "bigrt": "gcrt build", "basisrt": "gcrt bigrt build", "data": "flow word gcrt bigrt basisrt build",
		"front": "", "prim": "big world", "build": "", "colour": "word rounds", "rounds": "", "x64": "", "machine": "world x64", "asm": "x64", "emit": "word colour x64 asm", "elf": "",
		"image": "big world lex syntax types source core elab match flow close opt word heap gcrt bigrt basisrt data colour x64 machine asm emit elf",
	}
}

// goFiles are the paths of the project's Go files; tests too, if they are asked for.
func goFiles(t *testing.T, tests bool) []string {
	t.Helper()
	var out []string
	err := filepath.WalkDir(root, func(path string, d fs.DirEntry, err error) error {
		switch {
		case err != nil:
			return err
		case d.IsDir() && path != root && (strings.HasPrefix(d.Name(), ".") || d.Name() == "sharedtests"):
			return filepath.SkipDir
		case !d.IsDir() && strings.HasSuffix(path, ".go") && (tests || !strings.HasSuffix(path, "_test.go")):
			out = append(out, path)
		}
		return nil
	})
	if err != nil || len(out) < 26 {
		t.Fatalf("%d files, %v", len(out), err)
	}
	return out
}

func parse(t *testing.T, path string) *ast.File {
	t.Helper()
	f, err := parser.ParseFile(token.NewFileSet(), path, nil, parser.ParseComments)
	if err != nil {
		t.Fatal(err)
	}
	return f
}

// R6, and LANGUAGE.md's first rule: of the library a few packages alone; of the project what a layer may call.
func TestImports(t *testing.T) {
	for _, path := range goFiles(t, false) {
		layer := filepath.Base(filepath.Dir(path))
		below, known := calls()[layer]
		for _, i := range parse(t, path).Imports {
			name, _ := strconv.Unquote(i.Path.Value)
			own, ours := strings.CutPrefix(name, module)
			switch {
			case !ours && !strings.Contains(library, " "+name+" "):
				t.Errorf("%s imports %s", path, name)
			case ours && known && own != "api" && !strings.Contains(" "+below+" ", " "+own+" "):
				t.Errorf("%s imports %s: it is not below %s", path, name, layer)
			}
		}
	}
}

// LANGUAGE.md's second rule: in a package's folder there is no file beside the Go files.
func TestGoFilesAlone(t *testing.T) {
	err := filepath.WalkDir(root, func(path string, d fs.DirEntry, err error) error {
		switch {
		case err != nil:
			return err
		case d.IsDir() && path != root && (strings.HasPrefix(d.Name(), ".") || d.Name() == "sharedtests"):
			return filepath.SkipDir
		case !d.IsDir() && filepath.Dir(path) != root && !strings.HasSuffix(path, ".go"):
			t.Errorf("%s is no Go file", path)
		}
		return nil
	})
	if err != nil {
		t.Fatal(err)
	}
}

// LANGUAGE.md's second rule: no line that speaks to the tools.
func TestNoDirectives(t *testing.T) {
	for _, path := range goFiles(t, false) {
		for _, g := range parse(t, path).Comments {
			for _, c := range g.List {
				if strings.HasPrefix(c.Text, "//go:") || strings.HasPrefix(c.Text, "// +build") {
					t.Errorf("%s: %s", path, c.Text)
				}
			}
		}
	}
}

// LANGUAGE.md's ninth rule: functions of at most some 60 lines.
func TestShortFunctions(t *testing.T) {
	for _, path := range goFiles(t, false) {
		set := token.NewFileSet()
		f, err := parser.ParseFile(set, path, nil, 0)
		if err != nil {
			t.Fatal(err)
		}
		for _, d := range f.Decls {
			if x, ok := d.(*ast.FuncDecl); ok && set.Position(x.End()).Line-set.Position(x.Pos()).Line > 65 {
				t.Errorf("%s: %s is too long", path, x.Name.Name)
			}
		}
	}
}

func TestLayout(t *testing.T) {
	for _, path := range goFiles(t, true) {
		b, err := os.ReadFile(path)
		if err != nil {
			t.Fatal(err)
		}
		if laid, err := format.Source(b); err != nil || !bytes.Equal(laid, b) {
			t.Errorf("%s: not in gofmt's layout (%v)", path, err)
		}
	}
}
