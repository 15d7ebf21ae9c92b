package unit

import "organon/api"

// The calls have just the signatures of the chapter.
var (
	_ func(string) bool                       = Name
	_ func(api.Unit) api.Errno                = Right
	_ func(api.Unit) (string, api.Errno)      = Print
	_ func(string) (api.Unit, api.Errno, int) = Parse
	_ func(string) (api.Expr, bool)           = Tells
	_ func(string) []string                   = Cites
)
