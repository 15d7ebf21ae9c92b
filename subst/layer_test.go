package subst

import "organon/api"

// The calls have just the signatures of the chapter.
var (
	_ func(api.Expr, int, api.Expr) (api.Expr, api.Errno) = Put
	_ func(api.Expr, int, api.Expr) (api.Expr, api.Errno) = Safe
	_ func(api.Expr, []api.Pair) (api.Expr, api.Errno)    = Each
	_ func(api.Expr, api.Expr) (bool, api.Errno)          = Alpha
	_ func(api.Expr) (api.Expr, api.Errno)                = Canon
)
