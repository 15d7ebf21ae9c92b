package expr

import (
	"go/parser"
	"go/token"
	"iter"
	"os"
	"slices"
	"strconv"
	"strings"
	"testing"

	"organon/api"
)

// The calls have just the signatures of the chapter.
var (
	_ func(api.Expr) api.Errno                              = Right
	_ func(api.Expr) int                                    = Size
	_ func(api.Expr) int                                    = Depth
	_ func(api.Expr) bool                                   = IsTerm
	_ func(api.Expr) bool                                   = IsFormula
	_ func(api.Expr, api.Expr) bool                         = Same
	_ func(api.Expr, api.Expr) (int, api.Errno)             = Compare
	_ func(api.Expr) ([]byte, api.Errno)                    = Encode
	_ func([]byte) (api.Expr, api.Errno)                    = Decode
	_ func(api.Expr, []int) (api.Expr, api.Errno)           = At
	_ func(api.Expr, []int, api.Expr) (api.Expr, api.Errno) = Put
	_ func(api.Expr) iter.Seq2[int, api.Expr]               = All
)

// The chapter: of the project's packages, this one imports word and api alone.
func TestImportsOnlyLayersBelow(t *testing.T) {
	files, err := os.ReadDir(".")
	if err != nil {
		t.Fatal(err)
	}
	for _, f := range files {
		if !strings.HasSuffix(f.Name(), ".go") || strings.HasSuffix(f.Name(), "_test.go") {
			continue
		}
		tree, err := parser.ParseFile(token.NewFileSet(), f.Name(), nil, parser.ImportsOnly)
		if err != nil {
			t.Fatal(err)
		}
		for _, i := range tree.Imports {
			path, err := strconv.Unquote(i.Path.Value)
			if err != nil || !slices.Contains([]string{"organon/api", "organon/word", "cmp", "iter", "math"}, path) {
				t.Errorf("%s imports %s", f.Name(), path)
			}
		}
	}
}
