package stamp

import "organon/api"

// The calls have just the signatures of the chapter.
var (
	_ func([]api.Told) api.Errno                   = Right
	_ func([]api.Told, []api.Told) bool            = Same
	_ func(string, []api.Told) ([]byte, api.Errno) = Bytes
	_ func(string, []api.Told) (uint64, api.Errno) = Local
	_ func(int, int) (*Table, api.Errno)           = New
	_ func(*Table, []byte) (int, api.Errno)        = (*Table).Put
	_ func(*Table, []byte) (int, bool)             = (*Table).Find
	_ func(*Table, int) ([]byte, bool)             = (*Table).Get
	_ func(*Table) int                             = (*Table).Len
	_ func(*Table) int                             = (*Table).Crowd
	_ func(*Table) (int, int)                      = (*Table).Looks
)
