package word

import "organon/api"

// The calls have just the signatures of the chapter.
var (
	_ func([]int) (uint64, api.Errno)         = Set
	_ func(uint64) []int                      = List
	_ func(uint64, int) bool                  = Has
	_ func(uint64, int) uint64                = With
	_ func(uint64, int) uint64                = Without
	_ func(uint64) int                        = Count
	_ func(uint64) int                        = Least
	_ func(int, int, int) (uint32, api.Errno) = Pack
	_ func(uint32) (int, int, int)            = Unpack
	_ func(uint64) []byte                     = Put
	_ func([]byte) (uint64, int, api.Errno)   = Get
	_ func(int64) uint64                      = Fold
	_ func(uint64) int64                      = Unfold
	_ func(int64, int) (int64, api.Errno)     = Narrow
	_ func(uint64, int) uint64                = Turn
	_ func(uint64, uint64) uint64             = Mix
	_ func([]byte) uint64                     = Digest
	_ func(uint64, int) (uint64, api.Errno)   = Cut
)
