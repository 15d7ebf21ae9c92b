package parse

import "organon/api"

// The calls have just the signatures of the chapter.
var (
	_ func(string) ([]api.Token, api.Errno, int) = Tokens
	_ func(string) (api.Expr, api.Errno, int)    = Formula
	_ func(string) (api.Expr, api.Errno, int)    = Term
	_ func(api.Expr) (string, api.Errno)         = Print
)
