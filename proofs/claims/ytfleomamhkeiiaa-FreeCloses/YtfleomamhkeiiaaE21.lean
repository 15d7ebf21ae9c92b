/- The document's read, walked. -/
import Derived.Test.YtfleomamhkeiiaaE20
namespace Go.Proofs.Ytfleomamhkeiiaa
open Go.RowKit
theorem ret_read {a : Value} {x y z x' y' z' : Int} (h : x = x') (h' : y = y') (h'' : z = z') : Ending.returned (.tuple #[a, .int .i64 x, .int .i64 y, .int .i64 z]) = .returned (.tuple #[a, .int .i64 x', .int .i64 y', .int .i64 z']) := by rw [h, h', h'']
end Go.Proofs.Ytfleomamhkeiiaa
