package free

import (
	"go/parser"
	"go/token"
	"os"
	"slices"
	"strconv"
	"strings"
	"testing"

	"organon/api"
)

// The calls have just the signatures of the chapter.
var (
	_ func(api.Expr) (uint64, api.Errno)                = Vars
	_ func(api.Expr) (uint64, api.Errno)                = Free
	_ func(api.Expr) (uint64, api.Errno)                = Bound
	_ func(int, api.Expr) (bool, api.Errno)             = NotFree
	_ func(api.Expr, int, api.Expr) (uint64, api.Errno) = Caught
	_ func(api.Expr, int, api.Expr) (bool, api.Errno)   = FreeFor
	_ func(api.Expr) (api.Expr, api.Errno)              = Close
)

// The chapter: of the project's packages, this one imports word, expr and api alone.
func TestImportsOnlyLayersBelow(t *testing.T) {
	files, err := os.ReadDir(".")
	if err != nil {
		t.Fatal(err)
	}
	for _, f := range files {
		if !strings.HasSuffix(f.Name(), ".go") || strings.HasSuffix(f.Name(), "_test.go") {
			continue
		}
		tree, err := parser.ParseFile(token.NewFileSet(), f.Name(), nil, parser.ImportsOnly)
		if err != nil {
			t.Fatal(err)
		}
		for _, i := range tree.Imports {
			path, err := strconv.Unquote(i.Path.Value)
			if err != nil || !slices.Contains([]string{"organon/api", "organon/expr", "organon/word", "slices"}, path) {
				t.Errorf("%s imports %s", f.Name(), path)
			}
		}
	}
}
