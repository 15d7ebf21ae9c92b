/- Len, has, find and Find of package intern. -/
import Derived.Test.YtmmdhlemkcddmaaI4
import Derived.WalkArith
namespace Go.Proofs.Ytmmdhlemkcddmaa
open Go.RowKit
set_option linter.unusedVariables false
set_option linter.unusedSimpArgs false
theorem Tab.cells {w : World} {lo P M room : Nat} {L : List Tr} {A : Option Addr} {c : Nat} (h : Tab w lo P M room L A c) : w.cell? ⟨P, 0, none⟩ = some (.int .i64 (room : Int)) ∧ w.cell? ⟨P, 1, none⟩ = some (.map (some M)) ∧ w.cell? ⟨P, 2, none⟩ = some (.slice A L.length c) := by
  have hb := h.box
  simp [World.cell?, hb]
theorem Tab.froz {w : World} {lo P M room : Nat} {L : List Tr} {A : Option Addr} {c : Nat} (h : Tab w lo P M room L A c) (j : Nat) : w.frozen? ⟨P, j, none⟩ = false := by
  have hb := h.box
  simp [World.frozen?, hb]
theorem goodKey {L : List Tr} (hl : L.length ≤ 20000) {t : Tr} (ht : t.shp = true) : GoodKey (nodeT L t) := by
  obtain ⟨k1, k2, i1, i2, h4⟩ := kind_of_shp t ht
  refine ⟨?_, fun x hx => ?_⟩
  · unfold nodeT
    simp only [List.length_cons]
    rw [pad4_len (by simpa using h4)]
  · refine WalkArith.wf_i64 ?_
    unfold nodeT pad4 at hx
    simp only [List.mem_cons, List.mem_append, List.mem_map, List.mem_replicate] at hx
    rcases hx with rfl | rfl | ⟨n, ⟨q, _, rfl⟩, rfl⟩ | ⟨_, rfl⟩
    · omega
    · omega
    · have := num_le L q; omega
    · omega
theorem len_any {w : World} {lo P M room : Nat} {L : List Tr} {A : Option Addr} {c : Nat} (h : Tab w lo P M room L A c) :
    Calls Try.prog 23 #[.pointer (some ⟨P, 0, none⟩)] w fun e w' => e = .returned (.int .i64 (L.length : Int)) ∧ w' = w := by
  obtain ⟨c0, c1, c2⟩ := h.cells
  clear h
  go_enter Try.func23, Try.ntmps23
  go_wp2_with fail
  go_ret
  exact ⟨rfl, rfl⟩
set_option maxHeartbeats 4000000 in
set_option maxRecDepth 100000 in
theorem find_acts (w0 : World) (tl lo P M room : Nat) : ∀ (t : Tr), rightN t = 0 → Acts 93 (fun q L => num L q) (fun _ L => L) w0 tl lo P M room t := by
  intro t
  induction t using Tr.ind with
  | h t ih =>
    intro hr w L A c At ct hb htl hT ht
    have IH := Lib.hid (fun q (hq : q ∈ t.ks) => ih q hq (right_kid hr hq))
    have h4 := (kind_of_shp t (right_shp' hr).1).2.2.2.2
    have GK := Lib.hid (goodKey (Nat.le_trans hT.le hT.rm) (right_shp' hr).1)
    have hbe := below_al w (.cells #[.int .i64 t.k, .int .i64 t.i, .slice At t.ks.length ct] 24)
    have T1 := Lib.hid (hT.keep hbe)
    have A1 := Lib.hid ((Aft.refl (tl := tl) hT).keep hbe htl)
    have B1 := Lib.hid (hb.trans (hbe.mono htl))
    obtain ⟨y0, y1, y2⟩ := (Box3.new w (.int .i64 t.k) (.int .i64 t.i) (.slice At t.ks.length ct)).cells
    have HT := Lib.hid ht
    obtain ⟨f1, f2, f3⟩ := nodK_find t.ks L
    have OKK := Lib.hid hT.ok
    clear ih hr hb hT ht hbe
    obtain ⟨X, hX⟩ : ∃ X, X = nodK (fun q L => num L q) (fun _ L => L) t.ks L := ⟨_, rfl⟩
    have NO := Lib.hid (fun (W : World) (hW : W = w.alloc (.cells #[.int .i64 t.k, .int .i64 t.i, .slice At t.ks.length ct] 24)) => nodeOf_any 93 (fun q L => num L q) (fun _ L => L) w0 tl lo P M room (fun _ _ => by first | (go_simp; done) | rfl) t h4 IH.out W L A c At ct (by rw [hW]; exact B1.out) (by rw [hW]; simp; omega) (by rw [hW]; exact T1.out) HT.out)
    rw [← hX] at NO f1 f2 f3
    have F1 := Lib.hid f1
    have F2 := Lib.hid f2
    have F3 := Lib.hid f3
    clear hX f1 f2 f3
    go_enter Try.func93, Try.ntmps93
    go_wp2_with fail
    refine (NO.out _ rfl).mono ?_
    rintro e w1 ⟨rfl, A2, c2, hA⟩
    rw [F1.out] at hA
    have AF := Lib.hid (A1.out.trans hA)
    have EB := Lib.hid ((hA.kp.block w.heap.size (by simp) (T1.out.ne (Box3.new w (.int .i64 t.k) (.int .i64 t.i) (.slice At t.ks.length ct)) (by decide) (by decide))).trans (Box3.new w (.int .i64 t.k) (.int .i64 t.i) (.slice At t.ks.length ct)))
    have hsz := AF.out.kp.size
    clear hA y0 y1 y2 NO
    obtain ⟨XL, Xn, Xb⟩ := X
    simp only [nodR] at *
    cases Xb
    · have NU := Lib.hid (show num L t = 0 from num_zero.2 fun hm => absurd (F2.out.2 fun q hq => OKK.out.kid hm hq) (by simp))
      simp only [Bool.false_eq_true, if_false, keyA, zeros6, List.map_cons, List.map_nil]
      have AL := Lib.hid (AF.out.keep (below_al w1 (.cells #[.int .i64 0, .int .i64 0, .int .i64 0, .int .i64 0, .int .i64 0, .int .i64 0] 112)) (by omega))
      go_wp2_with fail
      go_ret
      exact ⟨by rw [NU.out]; rfl, A2, c2, AL.out⟩
    · have hk := F2.out.1 rfl
      have hns := F3.out rfl
      try simp only at hns
      have NU := Lib.hid (show ∀ f, MapOf L f → f (nodeT L t) = num L t from fun f hf => hf.num OKK.out hk h4)
      obtain ⟨p0, p1, p2, p3, hp⟩ : ∃ p0 p1 p2 p3, pad4 (t.ks.map (num L)) = [p0, p1, p2, p3] := by
        have := pad4_len (l := t.ks.map (num L)) (by simpa using h4)
        match hq : pad4 (t.ks.map (num L)), this with
        | [a, b, c, d], _ => exact ⟨a, b, c, d, rfl⟩
      have hnode : nodeT L t = [t.k, t.i, p0, p1, p2, p3] := by unfold nodeT; rw [hp]
      rw [hns, hp]
      rw [hnode] at GK NU
      simp only [if_true, keyA, List.map_cons, List.map_nil]
      have AL := Lib.hid (AF.out.keep (below_al w1 (.cells #[.int .i64 t.k, .int .i64 t.i, .int .i64 p0, .int .i64 p1, .int .i64 p2, .int .i64 p3] 112)) (by omega))
      have LK := Lib.hid (show ∀ W, Tab W lo P M room L A2 c2 → (Instr.lookup 72 (.map (some M)) (.agg #[.int .i64 t.k, .int .i64 t.i, .int .i64 p0, .int .i64 p1, .int .i64 p2, .int .i64 p3]) false).run Try.prog W = .ok (.int .i64 (num L t : Int)) W from fun W hW => by
        obtain ⟨f, hf, hm⟩ := hW.mp
        have := hf.look GK.out
        rw [NU.out f hm] at this
        exact this)
      have KB : BoxN (w1.alloc (.cells #[.int .i64 t.k, .int .i64 t.i, .int .i64 p0, .int .i64 p1, .int .i64 p2, .int .i64 p3] 112)) w1.heap.size [t.k, t.i, p0, p1, p2, p3] := heap_alloc_last w1 _
      obtain ⟨r0, r1, r2, r3, r4, r5⟩ := KB.cells6
      obtain ⟨q0, q1, q2⟩ := AL.out.tab.cells
      replace KB := Lib.hid KB
      clear hp hnode hk hns
      have hd : Below (w1.alloc (.cells #[.int .i64 t.k, .int .i64 t.i, .int .i64 p0, .int .i64 p1, .int .i64 p2, .int .i64 p3] 112)).heap.size (w1.alloc (.cells #[.int .i64 t.k, .int .i64 t.i, .int .i64 p0, .int .i64 p1, .int .i64 p2, .int .i64 p3] 112)) (w1.alloc (.cells #[.int .i64 t.k, .int .i64 t.i, .int .i64 p0, .int .i64 p1, .int .i64 p2, .int .i64 p3] 112)).drew := (Below.refl _ _).drew
      have AD := Lib.hid (AL.out.keep hd (by simp; omega))
      have LKD := Lib.hid (LK.out _ AD.out.tab)
      have KD := Lib.hid (show BoxN (w1.alloc (.cells #[.int .i64 t.k, .int .i64 t.i, .int .i64 p0, .int .i64 p1, .int .i64 p2, .int .i64 p3] 112)).drew w1.heap.size [t.k, t.i, p0, p1, p2, p3] from KB.out)
      clear hd
      go_wp2_with fail
      go_region_held3 (fun w' => w'.cell? ⟨P, 1, none⟩ = some (.map (some M)) ∧ (w'.cell? ⟨w1.heap.size, 0, none⟩ = some (.int .i64 t.k) ∧ w'.cell? ⟨w1.heap.size, 1, none⟩ = some (.int .i64 t.i) ∧ w'.cell? ⟨w1.heap.size, 2, none⟩ = some (.int .i64 p0) ∧ w'.cell? ⟨w1.heap.size, 3, none⟩ = some (.int .i64 p1) ∧ w'.cell? ⟨w1.heap.size, 4, none⟩ = some (.int .i64 p2) ∧ w'.cell? ⟨w1.heap.size, 5, none⟩ = some (.int .i64 p3)) ∧ (Instr.lookup 72 (.map (some M)) (.agg #[.int .i64 t.k, .int .i64 t.i, .int .i64 p0, .int .i64 p1, .int .i64 p2, .int .i64 p3]) false).run Try.prog w' = .ok (.int .i64 (num L t : Int)) w')
        (exact ⟨AD.out.tab.cells.2.1, KD.out.cells6, LKD.out⟩) (fail)
      go_wp2_with fail
      go_ret
      exact ⟨rfl, A2, c2, AD.out⟩
end Go.Proofs.Ytmmdhlemkcddmaa
