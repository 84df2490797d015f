package tests

import (
	"bytes"
	"go/ast"
	"go/format"
	"go/parser"
	"go/token"
	"os"
	"path/filepath"
	"slices"
	"strconv"
	"strings"
	"testing"
)

// The library packages that the language rules allow.
var allowedImports = strings.Fields("bytes cmp container/heap errors iter maps math math/big math/bits slices sort strconv strings sync sync/atomic unicode unicode/utf8")

const longestFunction = 60

func TestLanguage(t *testing.T) {
	entries, err := os.ReadDir("../impl")
	if err != nil {
		t.Fatal(err)
	}
	layers := []string{"l1_net.go", "l2_rules.go", "l3_auto.go", "l4_expand.go", "l5_route.go"}
	var names []string
	for _, e := range entries {
		names = append(names, e.Name())
		checkFile(t, filepath.Join("../impl", e.Name()))
	}
	if !slices.Equal(names, layers) {
		t.Errorf("the files of impl are %v, want one a layer", names)
	}
}

func checkFile(t *testing.T, path string) {
	source, err := os.ReadFile(path)
	if err != nil {
		t.Fatal(err)
	}
	if laid, err := format.Source(source); err != nil || !bytes.Equal(laid, source) {
		t.Errorf("%s is not in gofmt's layout", path)
	}
	for _, mark := range []string{"//go:", "// +build"} {
		if bytes.Contains(source, []byte(mark)) {
			t.Errorf("%s has a line %s", path, mark)
		}
	}
	files := token.NewFileSet()
	file, err := parser.ParseFile(files, path, source, parser.ParseComments)
	if err != nil {
		t.Fatal(err)
	}
	for _, i := range file.Imports {
		if name, _ := strconv.Unquote(i.Path.Value); !slices.Contains(allowedImports, name) {
			t.Errorf("%s imports %s", path, name)
		}
	}
	for _, d := range file.Decls {
		checkDeclaration(t, files, d)
	}
}

func checkDeclaration(t *testing.T, files *token.FileSet, d ast.Decl) {
	f, ok := d.(*ast.FuncDecl)
	if !ok {
		return
	}
	if f.Recv == nil && f.Name.Name == "init" {
		t.Errorf("%s: init", files.Position(f.Pos()))
	}
	if lines := files.Position(f.End()).Line - files.Position(f.Pos()).Line + 1; lines > longestFunction {
		t.Errorf("%s: %s has %d lines", files.Position(f.Pos()), f.Name.Name, lines)
	}
}
