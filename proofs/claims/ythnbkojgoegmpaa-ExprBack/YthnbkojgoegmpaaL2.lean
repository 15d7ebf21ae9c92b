/- The law ExprBytes, walked. -/
import Derived.Test.YthnbkojgoegmpaaE15
namespace Go.Proofs.Ythnbkojgoegmpaa
open Go.RowKit
theorem rd_own {w : World} {B : Nat} {v : Value} {l : List Nat} (h : w.ownsRow B 5 1 v l.length (bcells l)) : ∃ A c, v = .slice A l.length c ∧ Rd .u8 w w.heap.size A (bcast l) := by
  rcases own_form h with ⟨rfl, e⟩ | ⟨g, cap, rfl, _, _, _, hc⟩
  · have : l = [] := List.eq_nil_of_length_eq_zero e
    subst this
    exact ⟨none, 0, rfl, Rd.nil _ _ _ _⟩
  · refine ⟨_, cap, rfl, fun j hj => ⟨_, rfl, (h.lt g rfl).2, ?_⟩⟩
    rw [bcast_len] at hj
    rw [addr_add0, hc j hj, bcast_get]
    simp [bcells, List.getElem?_map, List.getElem?_eq_getElem hj, List.getD_eq_getElem?_getD]
set_option maxHeartbeats 1000000 in
theorem bytes_any (t : Tr) (A : Option Addr) (c : Nat) (w : World) (ht : IsT w w.heap.size t A c) :
    Calls Try.prog 6 #[.agg #[.int .i64 t.k, .int .i64 t.i, .slice A t.ks.length c]] w fun e w' => e = .returned (.bool true) ∧ Below w.heap.size w w' := by
  have hb0 : Below w.heap.size w (w.alloc (.cells #[.int .i64 t.k, .int .i64 t.i, .slice A t.ks.length c] 24)) := (Below.refl _ _).alloc (Nat.le_refl _) _
  have HT := Lib.hid (ht.keep hb0 hb0.size)
  clear ht
  go_enter Try.func6, Try.ntmps6
  go_wp2_with fail
  refine (encode_any t A c _ (by exact HT.out)).mono ?_
  rintro e w1 ⟨v1, l, rfl, hl, o1, hb1⟩
  obtain ⟨f0, f1, f2⟩ := box_cells (hb1.mono (by simp))
  have hc1 : Below w.heap.size w w1 := hb0.trans (hb1.mono hb0.size)
  have HT1 := Lib.hid (HT.out.keep hb1 hb1.size)
  have O1 := Lib.hid o1
  have HL := Lib.hid hl
  clear o1 hl hb1
  go_wp2_with fail
  refine (rencode_any t A c _ (by exact HT1.out)).mono ?_
  rintro e w2 ⟨v2, l2, rfl, hl2, o2, hb2⟩
  have hc2 : Below w.heap.size w w2 := hc1.trans (hb2.mono hc1.size)
  obtain ⟨A1, c1, rfl, R1⟩ := rd_own (own_keep O1.out hb2)
  obtain ⟨A2, c2, rfl, R2⟩ := rd_own o2
  obtain rfl : l2 = l := by rw [hl2, HL.out]
  have k1 := conv_bytes (c := c1) rfl R1
  have k2 := conv_bytes (c := c2) rfl R2
  clear R1 R2 o2 O1 HL hl2 hb2 hc1 HT1 HT
  go_wp2_with fail
  go_ret
  exact ⟨rfl, hc2⟩
end Go.Proofs.Ythnbkojgoegmpaa
