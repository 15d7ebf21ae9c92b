package free

import "organon/api"

// The calls have just the signatures of the chapter.
var (
	_ func(api.Expr) (uint64, api.Errno)                = Vars
	_ func(api.Expr) (uint64, api.Errno)                = Free
	_ func(api.Expr) (uint64, api.Errno)                = Bound
	_ func(int, api.Expr) (bool, api.Errno)             = NotFree
	_ func(api.Expr, int, api.Expr) (uint64, api.Errno) = Caught
	_ func(api.Expr, int, api.Expr) (bool, api.Errno)   = FreeFor
	_ func(api.Expr) (api.Expr, api.Errno)              = Close
)
