package event_test

import (
	"go/ast"
	"go/parser"
	"go/token"
	"path/filepath"
	"strings"
	"testing"
)

// ways tells which ways the code has: a struct with a field that is a function, and, in a function, a map of functions.
func ways(file *ast.File) (functionField, functionMap bool) {
	isFunction := func(e ast.Expr) bool {
		_, ok := e.(*ast.FuncType)
		return ok
	}
	for _, d := range file.Decls {
		_, inFunction := d.(*ast.FuncDecl)
		ast.Inspect(d, func(n ast.Node) bool {
			switch x := n.(type) {
			case *ast.StructType:
				for _, f := range x.Fields.List {
					functionField = functionField || isFunction(f.Type)
				}
			case *ast.MapType:
				functionMap = functionMap || inFunction && isFunction(x.Value)
			}
			return true
		})
	}
	return functionField, functionMap
}

// Chapter 2's section 'Ways': which fields an event has goes by a map of functions that a function makes (map, function-field).
func TestFieldsGoByFunctions(t *testing.T) {
	names, err := filepath.Glob("*.go")
	if err != nil {
		t.Fatal(err)
	}
	field, table := false, false
	for _, name := range names {
		if strings.HasSuffix(name, "_test.go") {
			continue
		}
		file, err := parser.ParseFile(token.NewFileSet(), name, nil, 0)
		if err != nil {
			t.Fatal(err)
		}
		f, m := ways(file)
		field, table = field || f, table || m
	}
	if !field {
		t.Error("no struct has a field that is a function")
	}
	if !table {
		t.Error("no function makes a map of functions")
	}
}
