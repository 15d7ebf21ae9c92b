/- Put and Get of package word, and the document's: what they return. -/
import Derived.Test.YtfleomamhkeiiaaW4
import Derived.Test.YtfleomamhkeiiaaMath3
namespace Go.Proofs.Ytfleomamhkeiiaa
open Go.RowKit
def bcells (l : List Nat) : List Value := l.map fun (n : Nat) => Value.int .u8 (n : Int)
theorem bcells_app (l m : List Nat) : bcells (l ++ m) = bcells l ++ bcells m := by simp [bcells]
theorem Try.info_byte : (Try.prog.info? 5).map (fun i => (i.zero, i.size, i.bytes)) = some (some (.int .u8 0), 1, 1) := by kernel_rfl
/-- bytes in memory of the call's own -/
def OwnBytes (w : World) (l : List Nat) (e : Ending) (w' : World) : Prop :=
  ∃ v, e = .returned v ∧ w'.ownsRow w.heap.size 5 1 v l.length (bcells l) ∧ Below w.heap.size w w'
/-- one byte put behind what is owned -/
theorem own_byte {w wr w1 : World} {B : Nat} {v v' : Value} {acc : List Nat} {o : Obj} {b : Nat} (hown : wr.ownsRow B 5 1 v acc.length (bcells acc)) (hb : Below B w wr) (hB : B ≤ w.heap.size)
    (hg : (wr.alloc o).grownBy w1 v.ownBlock) (hown' : w1.ownsRow B 5 1 v' (acc.length + 1) (bcells acc ++ [.int .u8 (b : Int)])) :
    w1.ownsRow B 5 1 v' (acc ++ [b]).length (bcells (acc ++ [b])) ∧ Below B w w1 :=
  ⟨by rw [bcells_app, List.length_append]; exact hown', own_step hown hb hB hg⟩
end Go.Proofs.Ytfleomamhkeiiaa
