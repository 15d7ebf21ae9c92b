package expr

import (
	"iter"

	"organon/api"
)

// The calls have just the signatures of the chapter.
var (
	_ func(api.Expr) api.Errno                              = Right
	_ func(api.Expr) int                                    = Size
	_ func(api.Expr) int                                    = Depth
	_ func(api.Expr) bool                                   = IsTerm
	_ func(api.Expr) bool                                   = IsFormula
	_ func(api.Expr, api.Expr) bool                         = Same
	_ func(api.Expr, api.Expr) (int, api.Errno)             = Compare
	_ func(api.Expr) ([]byte, api.Errno)                    = Encode
	_ func([]byte) (api.Expr, api.Errno)                    = Decode
	_ func(api.Expr, []int) (api.Expr, api.Errno)           = At
	_ func(api.Expr, []int, api.Expr) (api.Expr, api.Errno) = Put
	_ func(api.Expr) iter.Seq2[int, api.Expr]               = All
)
