package parse

import (
	"go/parser"
	"go/token"
	"os"
	"slices"
	"strconv"
	"strings"
	"testing"

	"organon/api"
)

// The calls have just the signatures of the chapter.
var (
	_ func(string) ([]api.Token, api.Errno, int) = Tokens
	_ func(string) (api.Expr, api.Errno, int)    = Formula
	_ func(string) (api.Expr, api.Errno, int)    = Term
	_ func(api.Expr) (string, api.Errno)         = Print
)

// The chapter: of the project's packages, this one imports expr and api alone.
func TestImportsOnlyLayersBelow(t *testing.T) {
	files, err := os.ReadDir(".")
	if err != nil {
		t.Fatal(err)
	}
	for _, f := range files {
		if !strings.HasSuffix(f.Name(), ".go") || strings.HasSuffix(f.Name(), "_test.go") {
			continue
		}
		tree, err := parser.ParseFile(token.NewFileSet(), f.Name(), nil, parser.ImportsOnly)
		if err != nil {
			t.Fatal(err)
		}
		for _, i := range tree.Imports {
			path, err := strconv.Unquote(i.Path.Value)
			if err != nil || !slices.Contains([]string{"organon/api", "organon/expr", "strconv", "strings"}, path) {
				t.Errorf("%s imports %s", f.Name(), path)
			}
		}
	}
}
