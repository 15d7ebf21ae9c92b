/- Encode of package expr. -/
import Derived.Test.YtdobpdedphkglaaE14
namespace Go.Proofs.Ytdobpdedphkglaa
open Go.RowKit Go.Shelf
attribute [local go_sem] Oper.semAt_some
def encP {w0 : World} {B : Nat} (l : List (Nd w0 B)) : List Nat := encE (l.map Nd.nd)
theorem encP_snoc {w0 : World} {B : Nat} (l : List (Nd w0 B)) (x : Nd w0 B) : encP (l ++ [x]) = encP l ++ putN (headE x.t) := by
  unfold encP; rw [List.map_append, List.map_cons, List.map_nil, encE_snoc]; rfl
theorem encP_len {w0 : World} {B : Nat} (l : List (Nd w0 B)) : (encP l).length ≤ 10 * l.length := by
  have := encE_len (l.map Nd.nd); rwa [List.length_map] at this
theorem KB.drew {B hi : Nat} (W : World) : KB B hi W W.drew := ⟨(Below.refl _ _).drew, fun _ _ _ h => h⟩
theorem KB.setBox {B hi b : Nat} {W : World} {t : TypeId} {v : Value} (h : Boxed W b t v) (ht : t ≠ 24) (hB : B ≤ b) (v' : Value) : KB B hi W (W.setCell ⟨b, 0, none⟩ v') :=
  KB.grown (grownBy_setCell' W b v') (Nat.le_trans hB (Nat.le_of_lt h.lt)) (fun k hk => by
    cases hk
    exact ⟨hB, _, _, h, ht⟩)
/-- the end of a round: bytes put behind those in the box -/
theorem enc_round {B hi b n m : Nat} {W W2 W3 : World} {v v' : Value} {xs ys : List Value} (hBW : B ≤ W.heap.size) (hb : B ≤ b) (bv : Boxed W b 83 v) (ow : W.ownsRow B 5 1 v n xs) (b2 : Below W.drew.heap.size W.drew W2)
    (hown : W3.ownsRow B 5 1 v' m ys) (hgrow : W2.grownBy W3 v.ownBlock) :
    Boxed W3 b 83 v ∧ Boxed (W3.setCell ⟨b, 0, none⟩ v') b 83 v' ∧ (W3.setCell ⟨b, 0, none⟩ v').ownsRow B 5 1 v' m ys ∧ KeepsOthers W (W3.setCell ⟨b, 0, none⟩ v') ∧ KB B hi W (W3.setCell ⟨b, 0, none⟩ v') := by
  have bW2 : Boxed W2 b 83 v := boxed_below (W := W.drew) bv b2 bv.lt
  have oW2 : W2.ownsRow B 5 1 v n xs := own_keep (w := W.drew) ow b2
  have bW3 : Boxed W3 b 83 v := bW2.kept hgrow (bW2.not_row (by decide) oW2)
  have hs2 : W.heap.size ≤ W2.heap.size := b2.size
  refine ⟨bW3, bW3.set v', hown.kept (grownBy_setCell' W3 b v') (.inr (bW3.not_row (by decide) hown).symm), ?_, ?_⟩
  · refine (((KeepsOthers.drew W).trans (keepsOthers_below b2)).trans (KeepsOthers.of_grownBy hgrow fun j o ej hj => ?_)).trans (KeepsOthers.setCell _ _ _)
    obtain ⟨_, cs, h⟩ := own_row oW2 j ej
    rw [h] at hj
    cases hj
    rfl
  · refine (((KB.drew W).trans (KB.of_below b2 hBW)).trans (KB.grown hgrow (by omega) fun k hk => ?_)).trans (KB.setBox bW3 (by decide) hb v')
    obtain ⟨h1, cs, h⟩ := own_row oW2 k hk
    exact ⟨h1, cs, _, h, by decide⟩
end Go.Proofs.Ytdobpdedphkglaa
