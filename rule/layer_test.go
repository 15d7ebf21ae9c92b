package rule

import "organon/api"

// The calls have just the signatures of the chapter.
var (
	_ func(api.Expr) (api.Expr, api.Errno)           = Plain
	_ func(api.Expr, api.Expr) (bool, api.Errno)     = Equal
	_ func(api.Expr, api.Expr) (api.Expr, api.Errno) = Detach
	_ func(api.Expr, int) (api.Expr, api.Errno)      = Gen
)
