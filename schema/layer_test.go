package schema

import "organon/api"

// The calls have just the signatures of the chapter.
var (
	_ func(int, api.Parts) (api.Expr, api.Errno)                     = Make
	_ func(int, api.Expr) (api.Parts, api.Errno)                     = Parts
	_ func(int, api.Expr) (bool, api.Errno)                          = Is
	_ func(api.Expr) ([]int, api.Errno)                              = Which
	_ func(api.Expr, api.Expr, api.Expr, api.Expr) (bool, api.Errno) = Swapped
)
