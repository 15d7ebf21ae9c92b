/- removeAfter of package intern, walked. -/
import Derived.Test.YtmmdhlemkcddmaaI15
namespace Go.Proofs.Ytmmdhlemkcddmaa
open Go.RowKit
set_option linter.unusedVariables false
set_option linter.unusedSimpArgs false
theorem RemS.cells {tl lo P M room : Nat} {w wx : World} {L : List Tr} {A : Option Addr} {c n m : Nat} (h : RemS tl lo P M room w wx L A c n m) : (wx.cell? ⟨P, 1, none⟩ = some (.map (some M)) ∧ wx.cell? ⟨P, 2, none⟩ = some (.slice A L.length c)) ∧ wx.frozen? ⟨P, 2, none⟩ = false := by
  have hb := h.box
  simp [World.cell?, World.frozen?, hb]
theorem RemS.entry {tl lo P M room : Nat} {w wx : World} {L : List Tr} {A : Option Addr} {c n m : Nat} (h : RemS tl lo P M room w wx L A c n m) (ho : Ok L) (i : Nat) (hi : i < L.length) :
    ∃ g, A = some ⟨g, 0, none⟩ ∧ L.length ≤ c ∧ ∃ p0 p1 p2 p3, nodeT L L[i] = [L[i].k, L[i].i, p0, p1, p2, p3] ∧
      (wx.cell? ⟨g, i * 8, none⟩ = some (.int .i64 L[i].k) ∧ wx.cell? ⟨g, i * 8 + 1, none⟩ = some (.int .i64 L[i].i) ∧ wx.cell? ⟨g, i * 8 + 2, none⟩ = some (.int .i64 p0) ∧ wx.cell? ⟨g, i * 8 + 3, none⟩ = some (.int .i64 p1) ∧ wx.cell? ⟨g, i * 8 + 4, none⟩ = some (.int .i64 p2) ∧ wx.cell? ⟨g, i * 8 + 5, none⟩ = some (.int .i64 p3)) ∧
      wx.cell? ⟨g, i * 8 + 6, none⟩ = some (.int .u64 (freeT L[i] : Int)) ∧ wx.cell? ⟨g, i * 8 + 7, none⟩ = some (.int .i64 (L[i].sz : Int)) := by
  have h4 : ∀ t ∈ L, t.ks.length ≤ 4 := fun t ht => ho.four ht
  obtain ⟨p0, p1, p2, p3, hp⟩ : ∃ p0 p1 p2 p3, pad4 (L[i].ks.map (num L)) = [p0, p1, p2, p3] := by
    have := pad4_len (l := L[i].ks.map (num L)) (by simpa using h4 _ (List.getElem_mem hi))
    match hq : pad4 (L[i].ks.map (num L)), this with
    | [a, b, c, d], _ => exact ⟨a, b, c, d, rfl⟩
  have hnode : nodeT L L[i] = [L[i].k, L[i].i, p0, p1, p2, p3] := by unfold nodeT; rw [hp]
  have hrow : rowE1 L L[i] = [.int .i64 L[i].k, .int .i64 L[i].i, .int .i64 p0, .int .i64 p1, .int .i64 p2, .int .i64 p3, .int .u64 (freeT L[i] : Int), .int .i64 (L[i].sz : Int)] := by
    unfold rowE1; rw [hnode]; rfl
  have own := h.own
  obtain ⟨g, cap, hv, _, _⟩ := own.form (by omega)
  cases hv
  have hc : L.length ≤ c := by
    rcases own.2 with ⟨e, _⟩ | ⟨g', cap', cur, e, _, _, hc', _⟩
    · cases e
    · cases e; exact hc'
  have key : ∀ j, j < 8 → wx.cell? ⟨g, i * 8 + j, none⟩ = (rowE1 L L[i])[j]? := fun j hj => by
    rw [own.cellAt (i * 8 + j) (by omega), rowEn_at L L h4 i j hi hj]
  rw [hrow] at key
  exact ⟨g, rfl, hc, p0, p1, p2, p3, hnode, ⟨key 0 (by omega), key 1 (by omega), key 2 (by omega), key 3 (by omega), key 4 (by omega), key 5 (by omega)⟩, key 6 (by omega), key 7 (by omega)⟩
set_option maxHeartbeats 1000000 in
set_option maxRecDepth 100000 in
theorem remove_some {w : World} {tl lo P M room : Nat} {L : List Tr} {g c : Nat} (hlo : tl ≤ lo) (htl : tl ≤ w.heap.size) (h : Tab w lo P M room L (some ⟨g, 0, none⟩) c) (n : Nat) (hn : n ≤ L.length) (hcap : L.length ≤ c) :
    Calls Try.prog 49 #[.pointer (some ⟨P, 0, none⟩), .int .i64 (n : Int)] w fun e w' => e = .returned (.tuple #[]) ∧ Aft tl lo P M room w w' (some ⟨g, 0, none⟩) (L.take n) (some ⟨g, 0, none⟩) c := by
  have R0 := Lib.hid (RemS.start (tl := tl) h n)
  obtain ⟨c0, c1, c2⟩ := h.cells
  have OK := Lib.hid h.ok
  have hle := h.le
  have hrm := h.rm
  have hloP := h.loP
  have hloM := h.loM
  obtain ⟨len, hlen⟩ : ∃ len, L.length = n + len := ⟨L.length - n, by omega⟩
  rw [hlen] at c2
  have HLEN := Lib.hid hlen
  have CUT := Lib.hid (fun wx (h : RemS tl lo P M room w wx L (some ⟨g, 0, none⟩) c n len) => h.cut OK.out hle hrm hloP hloM hlo (by omega) hlen.symm)
  have hcap' : n + len ≤ c := by omega
  clear h hn hcap
  by_cases hnc : n = c
  · obtain rfl : len = 0 := by omega
    subst hnc
    have R1 := Lib.hid (CUT.out w R0.out)
    have f2 := R0.out.cells.2
    clear hlen
    go_enter Try.func49, Try.ntmps49
    go_wp2_with fail
    go_loopw [13] (fun i wx => i = .int .i64 0 ∧ wx = w) (fun _ _ => 0)
    case atStart => exact ⟨rfl, rfl⟩
    case round =>
      obtain ⟨rfl, rfl⟩ := hrel
      go_wp2_with fail
      go_end0
      exact ⟨rfl, R1.out⟩
  · have hd1 : ¬ c = n := fun e => hnc e.symm
    have hd2 : n < c := by omega
    have hd3 : ¬ (c - n = 0) := by omega
    have hd4 : ¬ (c ≤ n) := by omega
    clear hlen
    go_enter Try.func49, Try.ntmps49
    go_wp2_with fail
    go_loopw [13] (fun i wx => ∃ m : Nat, m ≤ len ∧ i = .int .i64 (m : Int) ∧ RemS tl lo P M room w wx L (some ⟨g, 0, none⟩) c n m) (fun i _ => len - (intOf i).toNat)
    case atStart => exact ⟨0, Nat.zero_le _, rfl, R0.out⟩
    case round =>
      obtain ⟨m, hm, rfl, hR⟩ := hrel
      have RM := Lib.hid hR
      obtain ⟨⟨q1, q2⟩, f2⟩ := hR.cells
      rw [HLEN.out] at q2
      clear hR c0 c1 c2
      by_cases hlt : m < len
      · have hil : n + m < L.length := by have := HLEN.out; omega
        obtain ⟨g', eg, hc', p0, p1, p2, p3, hnode, ⟨e0, e1, e2, e3, e4, e5⟩, e6, e7⟩ := RM.out.entry OK.out (n + m) hil
        cases eg
        obtain ⟨f, hf, hp⟩ := RM.out.mp
        have GK := Lib.hid (goodKey (L := L) (by omega) (right_shp' (OK.out.right _ (List.getElem_mem hil))).1)
        have NZ := Lib.hid (show f (nodeT L L[n + m]) ≠ 0 by rw [hp.at_ (n + m) hil (by omega)]; omega)
        have ND := Lib.hid hnode
        obtain ⟨t, ht⟩ : ∃ t, t = L[n + m] := ⟨_, rfl⟩
        rw [← ht] at e0 e1 e6 e7 hnode
        rw [Nat.add_mul] at e0 e1 e2 e3 e4 e5 e6 e7
        have HTT := Lib.hid ht
        have HPF := Lib.hid hp
        have HF := Lib.hid hf
        clear hp hf
        have hbd : Below wr.heap.size wr (wr.alloc (.cells #[.int .i64 t.k, .int .i64 t.i, .int .i64 p0, .int .i64 p1, .int .i64 p2, .int .i64 p3, .int .u64 (freeT t : Int), .int .i64 (t.sz : Int)] 116)).drew := (below_al wr _).drew
        have RD := Lib.hid (RM.out.keep hbd htl)
        have EB : (wr.alloc (.cells #[.int .i64 t.k, .int .i64 t.i, .int .i64 p0, .int .i64 p1, .int .i64 p2, .int .i64 p3, .int .u64 (freeT t : Int), .int .i64 (t.sz : Int)] 116)).drew.heap[wr.heap.size]? = some (.cells #[.int .i64 t.k, .int .i64 t.i, .int .i64 p0, .int .i64 p1, .int .i64 p2, .int .i64 p3, .int .u64 (freeT t : Int), .int .i64 (t.sz : Int)] 116 (0, 0)) := heap_alloc_last wr _
        rw [← ht] at GK NZ ND
        obtain ⟨w7, hrun, hmp7, hg7⟩ := (HF.out.kept (hbd.block _ HF.out.lt)).del GK.out NZ.out 0
        have RN := Lib.hid (RD.out.del OK.out hlo hloM hil HPF.out (by rw [← ht]; exact hmp7) hg7)
        have hrun' : (Builtin.delete_ #[72, 112] 0 #[.map (some M), .agg #[.int .i64 t.k, .int .i64 t.i, .int .i64 p0, .int .i64 p1, .int .i64 p2, .int .i64 p3]]).run Try.prog (wr.alloc (.cells #[.int .i64 t.k, .int .i64 t.i, .int .i64 p0, .int .i64 p1, .int .i64 p2, .int .i64 p3, .int .u64 (freeT t : Int), .int .i64 (t.sz : Int)] 116)).drew = .ok (.tuple #[]) w7 := by
          have := hrun
          rw [ND.out] at this
          exact this
        have EB7 := Lib.hid ((hg7.block wr.heap.size (by show wr.heap.size < (wr.heap.push _).size; simp) (fun e => by have := HF.out.lt; cases e; omega)).trans EB)
        have ECE := Lib.hid (fun (W : World) (h : W.heap[wr.heap.size]? = some (.cells #[.int .i64 t.k, .int .i64 t.i, .int .i64 p0, .int .i64 p1, .int .i64 p2, .int .i64 p3, .int .u64 (freeT t : Int), .int .i64 (t.sz : Int)] 116 (0, 0))) => show W.cell? ⟨wr.heap.size, 0, none⟩ = some (.int .i64 t.k) ∧ W.cell? ⟨wr.heap.size, 1, none⟩ = some (.int .i64 t.i) ∧ W.cell? ⟨wr.heap.size, 2, none⟩ = some (.int .i64 p0) ∧ W.cell? ⟨wr.heap.size, 3, none⟩ = some (.int .i64 p1) ∧ W.cell? ⟨wr.heap.size, 4, none⟩ = some (.int .i64 p2) ∧ W.cell? ⟨wr.heap.size, 5, none⟩ = some (.int .i64 p3) from by simp [World.cell?, h])
        replace EB := Lib.hid EB
        clear hbd hrun hmp7 hg7 ht hnode
        go_wp2_with fail
        go_region_held3 (fun w' => w'.cell? ⟨P, 1, none⟩ = some (.map (some M)) ∧ (w'.cell? ⟨wr.heap.size, 0, none⟩ = some (.int .i64 t.k) ∧ w'.cell? ⟨wr.heap.size, 1, none⟩ = some (.int .i64 t.i) ∧ w'.cell? ⟨wr.heap.size, 2, none⟩ = some (.int .i64 p0) ∧ w'.cell? ⟨wr.heap.size, 3, none⟩ = some (.int .i64 p1) ∧ w'.cell? ⟨wr.heap.size, 4, none⟩ = some (.int .i64 p2) ∧ w'.cell? ⟨wr.heap.size, 5, none⟩ = some (.int .i64 p3)))
          (first | exact ⟨RD.out.cells.1.1, ECE.out _ EB.out⟩ | exact ⟨RN.out.cells.1.1, ECE.out _ EB7.out⟩) (fail)
        go_wp2_with fail
        go_roundw
        case rel => exact ⟨m + 1, by omega, by go_num, RN.out⟩
        case measure => simp [intOf]; omega
      · obtain rfl : m = len := by omega
        have R1 := Lib.hid (CUT.out wr RM.out)
        go_wp2_with fail
        go_end0
        exact ⟨rfl, R1.out⟩
end Go.Proofs.Ytmmdhlemkcddmaa
