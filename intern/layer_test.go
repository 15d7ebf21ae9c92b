package intern

import "organon/api"

// The calls have just the signatures of the chapter.
var (
	_ func(int) *Table                        = New
	_ func(*Table, api.Expr) (int, api.Errno) = (*Table).Put
	_ func(*Table, api.Expr) int              = (*Table).Find
	_ func(*Table, int) (api.Expr, api.Errno) = (*Table).Get
	_ func(*Table, int) (uint64, api.Errno)   = (*Table).Free
	_ func(*Table, int) (int, api.Errno)      = (*Table).Size
	_ func(*Table) int                        = (*Table).Len
)
