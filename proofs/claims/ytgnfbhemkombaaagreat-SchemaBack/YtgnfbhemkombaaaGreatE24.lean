/- follow of package expr, At, and the document's At. -/
import Derived.Test.YtgnfbhemkombaaaGreatE17
import Derived.Test.YtgnfbhemkombaaaGreatE9
import Derived.Test.YtgnfbhemkombaaaGreatW4
import Derived.Test.YtgnfbhemkombaaaGreatZT
import Derived.Test.YtgnfbhemkombaaaGreatT6
namespace Go.Proofs.YtgnfbhemkombaaaGreat
open Go.RowKit
theorem Box3.set3 {w : World} {b : Nat} {x y z : Value} (h : Box3 w b x y z) (x' y' z' : Value) : Box3 (((w.setCell ⟨b, 0, none⟩ x').setCell ⟨b, 1, none⟩ y').setCell ⟨b, 2, none⟩ z') b x' y' z' := by
  unfold Box3 at *
  unfold World.setCell
  simp [Array.getElem?_modify, h]
theorem Box3.set3_other {w : World} {b b' : Nat} {x y z : Value} (h : Box3 w b x y z) (hne : b ≠ b') (x' y' z' : Value) : Box3 (((w.setCell ⟨b', 0, none⟩ x').setCell ⟨b', 1, none⟩ y').setCell ⟨b', 2, none⟩ z') b x y z :=
  ((h.set_other ⟨b', 0, none⟩ x' hne).set_other ⟨b', 1, none⟩ y' hne).set_other ⟨b', 2, none⟩ z' hne
/-- what follow answers: a part that lies where it lay -/
def FolPost (w : World) (t : Tr) (zs : List Int) (e : Ending) (w' : World) : Prop :=
  Below w.heap.size w w' ∧ match partAt t zs with
    | none => e = .returned (.tuple #[.agg #[.int .i64 0, .int .i64 0, .slice none 0 0], .bool false])
    | some q => ∃ A' c', e = .returned (.tuple #[.agg #[.int .i64 q.k, .int .i64 q.i, .slice A' q.ks.length c'], .bool true]) ∧ IsT w w.heap.size q A' c'
theorem two_boxes0 (w : World) (x y z x' y' z' : Value) :
    Box3 ((w.alloc (.cells #[x, y, z] 24)).alloc (.cells #[x', y', z'] 24)) w.heap.size x y z ∧ Box3 ((w.alloc (.cells #[x, y, z] 24)).alloc (.cells #[x', y', z'] 24)) (w.heap.size + 1) x' y' z' ∧
    Below w.heap.size w ((w.alloc (.cells #[x, y, z] 24)).alloc (.cells #[x', y', z'] 24)) := by
  refine ⟨?_, ?_, ((Below.refl _ w).alloc (Nat.le_refl _) _).alloc (by simp) _⟩
  · show ((w.heap.push _).push _)[w.heap.size]? = _
    rw [Array.getElem?_push, if_neg (by simp), Array.getElem?_push, if_pos rfl]
  · show ((w.heap.push _).push _)[w.heap.size + 1]? = _
    rw [Array.getElem?_push, if_pos (by simp)]
theorem Rd.int {w : World} {B : Nat} {A : Option Addr} {zs : List Int} (h : Rd .i64 w B A zs) (k : Nat) (hk : k < zs.length) : ∃ ad z, A = some ad ∧ ad.block < B ∧ w.cell? (ad.add k) = some (.int .i64 z) ∧ zs.drop k = z :: zs.drop (k + 1) := by
  obtain ⟨ad, e, hlt, hc⟩ := h k hk
  refine ⟨ad, _, e, hlt, hc, ?_⟩
  rw [List.drop_eq_getElem_cons hk, List.getD_eq_getElem?_getD, List.getElem?_eq_getElem hk]; rfl
set_option maxRecDepth 100000 in
set_option maxHeartbeats 2000000 in
theorem follow_any (t : Tr) (A : Option Addr) (c : Nat) (A1 : Option Addr) (n cap : Nat) (zs : List Int) (w : World) (ht : IsT w w.heap.size t A c) (hz : zs.length = n) (hn : n ≤ maxLen) (hr : Rd .i64 w w.heap.size A1 zs) :
    Calls Tryz.prog 68 #[.agg #[.int .i64 t.k, .int .i64 t.i, .slice A t.ks.length c], .slice A1 n cap] w (FolPost w t zs) := by
  have S0 := Lib.hid (two_boxes0 w (.int .i64 t.k) (.int .i64 t.i) (.slice A t.ks.length c) (.int .i64 0) (.int .i64 0) (.slice none 0 0))
  have HT := Lib.hid ht
  have HR := Lib.hid hr
  have HZ := Lib.hid hz
  have hn' : n ≤ 9223372036854775807 := by unfold maxLen at hn; omega
  clear ht hr hz
  go_enter Tryz.func68, Tryz.ntmps68
  go_wp2_with fail
  go_loopw [10] (fun i wr => ∃ (k : Nat) (q : Tr) (A' : Option Addr) (c' : Nat), k ≤ n ∧ i = .int .i64 (k : Int) ∧ partAt t zs = partAt q (zs.drop k) ∧ IsT w w.heap.size q A' c' ∧ Box3 wr w.heap.size (.int .i64 q.k) (.int .i64 q.i) (.slice A' q.ks.length c') ∧ Box3 wr (w.heap.size + 1) (.int .i64 0) (.int .i64 0) (.slice none 0 0) ∧ Below w.heap.size w wr) (fun i _ => n - (intOf i).toNat)
  case atStart => exact ⟨0, t, A, c, Nat.zero_le _, rfl, rfl, HT.out, S0.out.1, S0.out.2.1, S0.out.2.2⟩
  case round =>
    obtain ⟨k, q, A', c', hk, rfl, hP, hq, hb1, hb2, hbr⟩ := hrel
    have HP := Lib.hid hP
    have HQ := Lib.hid hq
    have HB1 := Lib.hid hb1
    have HB2 := Lib.hid hb2
    have hl := hq.len
    obtain ⟨x0, x1, x2⟩ := hb1.cells
    have g0 := hb1.frozen 0
    have g1 := hb1.frozen 1
    have g2 := hb1.frozen 2
    obtain ⟨y0, y1, y2⟩ := hb2.cells
    have f0 := hb2.frozen 0
    have f1 := hb2.frozen 1
    have f2 := hb2.frozen 2
    clear hP hq hb1 hb2 S0
    by_cases hlt : k < n
    · obtain ⟨ad, z, rfl, had, hc0, hd⟩ := HR.out.int k (by rw [HZ.out]; exact hlt)
      have hc1 := (hbr.cell (p := ad.add k) (by rw [add_block]; exact had)).trans hc0
      have HD := Lib.hid hd
      clear hc0 hd
      by_cases hz0 : z < 0
      · have F := Lib.hid (show partAt t zs = none by rw [HP.out, HD.out, partAt_out _ _ _ (by omega)])
        go_wp2_with fail
        refine bodyPost_ret (v := .tuple #[.agg #[.int .i64 0, .int .i64 0, .slice none 0 0], .bool false]) (by simp [results, Tryz.results68, go_sem, y0, y1, y2]) rfl ⟨below_set3 hbr _ _ _ (by omega), ?_⟩
        rw [F.out]
      · obtain ⟨m, rfl⟩ := Int.eq_ofNat_of_zero_le (show 0 ≤ z by omega)
        by_cases hm : m < q.ks.length
        · obtain ⟨b, o, A2, c2, rfl, hltb, p0, p1, p2, hkid⟩ := HQ.out.kid m hm
          have NP := Lib.hid (show partAt t zs = partAt q.ks[m] (zs.drop (k + 1)) by rw [HP.out, HD.out, partAt_in q (m : Int) _ (by omega) (by simpa using hm)]; rfl)
          obtain ⟨q', hq'⟩ : ∃ q', q' = q.ks[m] := ⟨_, rfl⟩
          rw [← hq'] at p0 p1 p2 hkid NP
          clear hq'
          have d0 := (hbr.cell hltb).trans p0
          have d1 := (hbr.cell hltb).trans p1
          have d2 := (hbr.cell hltb).trans p2
          have hm' : ¬ (q.ks.length : Int) ≤ (m : Int) := by omega
          have hm2 : (m : Int) < (q.ks.length : Int) := by omega
          have HKK := Lib.hid hkid
          have NB1 := Lib.hid (HB1.out.set3 (.int .i64 q'.k) (.int .i64 q'.i) (.slice A2 q'.ks.length c2))
          have NB2 := Lib.hid (HB2.out.set3_other (b' := w.heap.size) (by omega) (.int .i64 q'.k) (.int .i64 q'.i) (.slice A2 q'.ks.length c2))
          have NBR := Lib.hid (below_set3 hbr (.int .i64 q'.k) (.int .i64 q'.i) (.slice A2 q'.ks.length c2) (Nat.le_refl _))
          clear p0 p1 p2 hkid
          go_wp2_with fail
          go_roundw
          case rel => exact ⟨k + 1, q', A2, c2, by omega, by go_num, NP.out, HKK.out, NB1.out, NB2.out, NBR.out⟩
          case measure => simp [intOf]; omega
        · have F := Lib.hid (show partAt t zs = none by rw [HP.out, HD.out, partAt_out _ _ _ (by simp; omega)])
          have hm' : (q.ks.length : Int) ≤ (m : Int) := by omega
          go_wp2_with fail
          refine bodyPost_ret (v := .tuple #[.agg #[.int .i64 0, .int .i64 0, .slice none 0 0], .bool false]) (by simp [results, Tryz.results68, go_sem, y0, y1, y2]) rfl ⟨below_set3 hbr _ _ _ (by omega), ?_⟩
          rw [F.out]
    · obtain rfl : k = n := by omega
      have F := Lib.hid (show partAt t zs = some q by rw [HP.out, List.drop_eq_nil_of_le (by rw [HZ.out]; exact Nat.le_refl _), partAt_nil])
      go_wp2_with fail
      refine bodyPost_ret (v := .tuple #[.agg #[.int .i64 q.k, .int .i64 q.i, .slice A' q.ks.length c'], .bool true]) (by simp [results, Tryz.results68, go_sem, y0, y1, y2]) rfl ⟨below_set3 hbr _ _ _ (by omega), ?_⟩
      rw [F.out]
      exact ⟨A', c', rfl, HQ.out⟩
end Go.Proofs.YtgnfbhemkombaaaGreat
