/- The document's Put; Get of package word and the document's. -/
import Derived.Test.YtfleomamhkeiiaaW7
namespace Go.Proofs.Ytfleomamhkeiiaa
open Go.RowKit
theorem or_walk (k acc c : Nat) (h : acc < 2 ^ (7 * k)) (hk : k ≤ 9) (hc : ¬ (k = 9 ∧ 1 < c)) :
    bits .or .u64 (acc : Int) (IntKind.u64.wrap ((c : Int) % 128 * 2 ^ (7 * k))) = ((acc + c % 128 * 2 ^ (7 * k) : Nat) : Int) := by
  rw [show ((c : Int) % 128) = ((c % 128 : Nat) : Int) from by omega, shl_group k c hk hc, or_group k acc c h hk hc]
end Go.Proofs.Ytfleomamhkeiiaa
