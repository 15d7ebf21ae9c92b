/- isVariable, isQuantifier, isFree, isNumber, visit of package free. -/
import Derived.Test.YtgnfbhemkombaaaGreatF2
import Derived.Test.YtgnfbhemkombaaaGreatW1
namespace Go.Proofs.YtgnfbhemkombaaaGreat
open Go.RowKit
set_option linter.unusedVariables false
set_option linter.unusedSimpArgs false
/-- nothing that there was has turned but block b -/
structure KeepX (b : Nat) (w w' : World) : Prop where
  os : w'.os = w.os
  tape : w'.tape = w.tape
  output : w'.output = w.output
  size : w.heap.size ≤ w'.heap.size
  block : ∀ k, k < w.heap.size → k ≠ b → w'.heap[k]? = w.heap[k]?
theorem KeepX.refl (b : Nat) (w : World) : KeepX b w w := ⟨rfl, rfl, rfl, Nat.le_refl _, fun _ _ _ => rfl⟩
theorem KeepX.trans {b : Nat} {x y z : World} (h : KeepX b x y) (k : KeepX b y z) : KeepX b x z :=
  ⟨k.os.trans h.os, k.tape.trans h.tape, k.output.trans h.output, Nat.le_trans h.size k.size, fun i h1 h2 => (k.block i (Nat.lt_of_lt_of_le h1 h.size) h2).trans (h.block i h1 h2)⟩
theorem KeepX.of_below {b : Nat} {w w' : World} (h : Below w.heap.size w w') : KeepX b w w' := ⟨h.os, h.tape, h.output, h.size, fun k h1 _ => h.block k h1⟩
theorem KeepX.set (b o : Nat) (w : World) (v : Value) : KeepX b w (w.setCell ⟨b, o, none⟩ v) := by
  have h := (Below.refl 0 w).setCell (p := ⟨b, o, none⟩) (Nat.zero_le _) v
  exact ⟨h.os, h.tape, h.output, h.size, fun k _ hk => heap_setCell_other _ _ _ _ hk⟩
theorem KeepX.below {b B : Nat} {w w' : World} (h : KeepX b w w') (h1 : B ≤ b) (h2 : B ≤ w.heap.size) : Below B w w' :=
  ⟨h.os, h.tape, h.output, h.size, fun k hk => h.block k (by omega) (by omega)⟩
/-- block b is a variable that holds the word s -/
def St (W : World) (b s : Nat) : Prop := W.heap[b]? = some (.cells #[.int .u64 (s : Int)] 69 (0, 0))
theorem St.cell {W : World} {b s : Nat} (h : St W b s) : W.cell? ⟨b, 0, none⟩ = some (.int .u64 (s : Int)) := by
  unfold St at h
  simp [World.cell?, h]
theorem St.frozen {W : World} {b s : Nat} (h : St W b s) : W.frozen? ⟨b, 0, none⟩ = false := by
  unfold St at h
  simp [World.frozen?, h]
theorem St.lt {W : World} {b s : Nat} (h : St W b s) : b < W.heap.size := (Array.getElem?_eq_some_iff.1 h).1
theorem St.keep {W W' : World} {b s : Nat} (h : St W b s) (hb : Below W.heap.size W W') : St W' b s := (hb.block b h.lt).trans h
theorem St.set {W : World} {b s : Nat} (h : St W b s) (s' : Nat) : St (W.setCell ⟨b, 0, none⟩ (.int .u64 (s' : Int))) b s' := by
  unfold St at *
  unfold World.setCell
  simp [Array.getElem?_modify, h]
theorem Box3.keepX {w w' : World} {b r : Nat} {x y z : Value} (h : Box3 w b x y z) (hk : KeepX r w w') (hne : b ≠ r) : Box3 w' b x y z := (hk.block _ h.lt hne).trans h
set_option maxHeartbeats 400000 in
theorem isVar_any (k i : Int) (A : Option Addr) (n c : Nat) (w : World) :
    Calls Tryz.prog 128 #[.agg #[.int .i64 k, .int .i64 i, .slice A n c]] w fun e w' => e = .returned (.bool (decide (k = 1))) ∧ Below w.heap.size w w' := by
  have hb : Below w.heap.size w (w.alloc (.cells #[.int .i64 k, .int .i64 i, .slice A n c] 24)) := (Below.refl _ _).alloc (Nat.le_refl _) _
  by_cases h1 : k = 1
  · subst h1
    go_enter Tryz.func128, Tryz.ntmps128
    go_wp2
    go_ret
    exact ⟨rfl, hb⟩
  · have h1' : (k == 1) = false := by simpa using h1
    have T := Lib.hid (show decide (k = 1) = false by simp [h1])
    go_enter Tryz.func128, Tryz.ntmps128
    go_wp2
    go_ret
    exact ⟨by rw [T.out]; rfl, hb⟩
set_option maxHeartbeats 400000 in
theorem isQuant_any (k i : Int) (A : Option Addr) (n c : Nat) (w : World) :
    Calls Tryz.prog 129 #[.agg #[.int .i64 k, .int .i64 i, .slice A n c]] w fun e w' => e = .returned (.bool (decide (k = 7 ∨ k = 10))) ∧ Below w.heap.size w w' := by
  have hb : Below w.heap.size w (w.alloc (.cells #[.int .i64 k, .int .i64 i, .slice A n c] 24)) := (Below.refl _ _).alloc (Nat.le_refl _) _
  by_cases h1 : k = 7
  · subst h1
    go_enter Tryz.func129, Tryz.ntmps129
    go_wp2
    go_ret
    exact ⟨rfl, hb⟩
  · have h1' : (k == 7) = false := by simpa using h1
    by_cases h2 : k = 10
    · subst h2
      go_enter Tryz.func129, Tryz.ntmps129
      go_wp2
      go_ret
      exact ⟨rfl, hb⟩
    · have h2' : (k == 10) = false := by simpa using h2
      have T := Lib.hid (show decide (k = 7 ∨ k = 10) = false by simp [h1, h2])
      go_enter Tryz.func129, Tryz.ntmps129
      go_wp2
      go_ret
      exact ⟨by rw [T.out]; rfl, hb⟩
set_option maxHeartbeats 400000 in
theorem isNumber_any (x : Int) (w : World) :
    Calls Tryz.prog 106 #[.int .i64 x] w fun e w' => e = .returned (.bool (fitsB x)) ∧ w = w' := by
  by_cases h0 : 0 ≤ x
  · by_cases h1 : x ≤ 63
    · have T := Lib.hid (show fitsB x = true by unfold fitsB; rw [decide_eq_true_eq]; omega)
      go_enter Tryz.func106, Tryz.ntmps106
      go_wp2
      go_ret
      exact ⟨by rw [T.out]; first | rfl | simp, rfl⟩
    · have T := Lib.hid (show fitsB x = false by unfold fitsB; rw [decide_eq_false_iff_not]; omega)
      go_enter Tryz.func106, Tryz.ntmps106
      go_wp2
      go_ret
      exact ⟨by rw [T.out]; first | rfl | simp, rfl⟩
  · have T := Lib.hid (show fitsB x = false by unfold fitsB; rw [decide_eq_false_iff_not]; omega)
    go_enter Tryz.func106, Tryz.ntmps106
    go_wp2
    go_ret
    exact ⟨by rw [T.out]; first | rfl | simp, rfl⟩
def freeB (k i : Int) (ar : Nat) : Bool := decide (k = 1) && !hasN ar i
set_option maxHeartbeats 1000000 in
theorem isFree_any (k i : Int) (A : Option Addr) (n c : Nat) (ar : Nat) (w : World) (hU : U64 ar) :
    Calls Tryz.prog 124 #[.agg #[.int .i64 k, .int .i64 i, .slice A n c], .int .u64 (ar : Int)] w fun e w' => e = .returned (.bool (freeB k i ar)) ∧ Below w.heap.size w w' := by
  have hb0 : Below w.heap.size w (w.alloc (.cells #[.int .i64 k, .int .i64 i, .slice A n c] 24)) := (Below.refl _ _).alloc (Nat.le_refl _) _
  obtain ⟨y0, y1, y2⟩ := box_new w (.int .i64 k) (.int .i64 i) (.slice A n c) 24
  have HB0 := Lib.hid hb0
  have BX := Lib.hid (Box3.new w (.int .i64 k) (.int .i64 i) (.slice A n c))
  have HU := Lib.hid hU
  clear hb0 hU
  go_enter Tryz.func124, Tryz.ntmps124
  go_wp2_with fail
  refine (isVar_any k i A n c _).mono ?_
  rintro e w1 ⟨rfl, hb1⟩
  have BB := Lib.hid (HB0.out.trans (hb1.mono HB0.out.size))
  have BX1 := Lib.hid (BX.out.keep hb1 BX.out.lt)
  obtain ⟨z0, z1, z2⟩ := BX1.out.cells
  clear hb1 y0 y1 y2
  by_cases h1 : k = 1
  · rw [decide_eq_true h1]
    have F := Lib.hid (show freeB k i ar = !hasN ar i by unfold freeB; rw [decide_eq_true h1]; rfl)
    clear h1
    go_wp2_with fail
    refine (has_any ar i _ HU.out).mono ?_
    rintro e w9 ⟨rfl, hw9⟩
    rw [← hw9]
    clear hw9
    go_wp2_with fail
    go_ret
    exact ⟨by rw [F.out]; rfl, BB.out⟩
  · rw [decide_eq_false h1]
    have F := Lib.hid (show freeB k i ar = false by unfold freeB; rw [decide_eq_false h1]; rfl)
    clear h1
    go_wp2_with fail
    go_ret
    exact ⟨by rw [F.out]; rfl, BB.out⟩
/-- what a function that is handed each node does: it turns the word in block b by g -/
def Finds (fn : Nat) (p b : Nat) (g : Int → Int → Nat → Nat → Nat) (I : World → Prop) : Prop := ∀ (k i : Int) (A : Option Addr) (n c ar s : Nat) (W : World), U64 ar → U64 s → St W b s → I W →
  Calls Tryz.prog fn #[.agg #[.int .i64 k, .int .i64 i, .slice A n c], .int .u64 (ar : Int), .pointer (some ⟨p, 0, none⟩), .pointer (some ⟨b, 0, none⟩)] W fun e W' => e = .returned (.tuple #[]) ∧ St W' b (g k i ar s) ∧ KeepX b W W'
set_option maxHeartbeats 4000000 in
set_option maxRecDepth 100000 in
theorem fvisit_any (fn p b B : Nat) (g : Int → Int → Nat → Nat → Nat) (I : World → Prop) (hB : B ≤ b) (hg : StayU g) (hI : ∀ W W', KeepX b W W' → I W → I W') (hE : ∀ (args : Array Value) (w : World), Sem.run Tryz.prog (callFunc fn args) w = .ok (.enter fn args) w) (hF : Finds fn p b g I) :
    ∀ (N : Nat) (t : Tr) (A : Option Addr) (c ar s : Nat) (w : World), t.sz ≤ N → IsT w B t A c → U64 ar → U64 s → St w b s → I w →
    Calls Tryz.prog 122 #[.agg #[.int .i64 t.k, .int .i64 t.i, .slice A t.ks.length c], .int .u64 (ar : Int), .func (.func fn) #[] #[.pointer (some ⟨p, 0, none⟩), .pointer (some ⟨b, 0, none⟩)]] w fun e w' => e = .returned (.tuple #[]) ∧ St w' b (foldV g t ar s) ∧ KeepX b w w' := by
  intro N
  induction N with
  | zero => intro t A c ar s w h; have := sz_pos t; omega
  | succ N ih =>
    intro t A c ar s w hN ht hUa hUs hS hi
    have IH := Lib.hid ih
    have HT := Lib.hid ht
    have HI := Lib.hid hI
    have Hi := Lib.hid hi
    have HG := Lib.hid hg
    have HUa := Lib.hid hUa
    have HUs := Lib.hid hUs
    have hl := ht.len
    have hbw := hS.lt
    have hb0 : Below w.heap.size w (w.alloc (.cells #[.int .i64 t.k, .int .i64 t.i, .slice A t.ks.length c] 24)) := (Below.refl _ _).alloc (Nat.le_refl _) _
    obtain ⟨y0, y1, y2⟩ := box_new w (.int .i64 t.k) (.int .i64 t.i) (.slice A t.ks.length c) 24
    have FC := Lib.hid (hF t.k t.i A t.ks.length c ar s _ hUa hUs (hS.keep hb0) (hI _ _ (KeepX.of_below hb0) hi))
    have HB0 := Lib.hid hb0
    have FV := Lib.hid (foldV_eq g t ar s)
    clear ih ht hi hUa hUs hS hb0 hI hF hg
    go_enter Tryz.func122, Tryz.ntmps122
    go_wp2_with fail
    refine FC.out.mono ?_
    rintro e w1 ⟨rfl, hS1, hk1⟩
    have S1 := Lib.hid hS1
    have KW1 := Lib.hid ((KeepX.of_below (b := b) HB0.out).trans hk1)
    have B1 := Lib.hid ((Box3.new w (.int .i64 t.k) (.int .i64 t.i) (.slice A t.ks.length c)).keepX hk1 (by omega))
    obtain ⟨z0, z1, z2⟩ := B1.out.cells
    clear y0 y1 y2 hS1 hk1 FC
    go_wp2_with fail
    refine (isQuant_any t.k t.i A t.ks.length c _).mono ?_
    rintro e w2 ⟨rfl, hb2⟩
    obtain ⟨y0, y1, y2⟩ := (B1.out.keep hb2 B1.out.lt).cells
    clear z0 z1 z2
    by_cases hq : t.k = 7 ∨ t.k = 10
    · rw [decide_eq_true hq]
      have E := Lib.hid (show foldV g t ar s = foldVL g t.ks (withN ar t.i) (g t.k t.i ar s) by rw [FV.out, if_pos hq])
      clear hq
      go_wp2_with fail
      refine (with_any ar t.i _ HUa.out).mono ?_
      rintro e w9 ⟨rfl, hw9⟩
      rw [← hw9]
      clear hw9
      obtain ⟨ar', har⟩ : ∃ ar', ar' = withN ar t.i := ⟨_, rfl⟩
      have UA' := Lib.hid (show U64 ar' by rw [har]; exact withU _ HUa.out)
      rw [← har] at E ⊢
      clear har
      go_wp2_with fail
      have K2 := Lib.hid ((KW1.out).trans (KeepX.of_below hb2))
      have S2 := Lib.hid (S1.out.keep hb2)
      clear hb2
      have IW2 := Lib.hid (HI.out _ _ K2.out Hi.out)
      obtain ⟨s1, hs1⟩ : ∃ s1, s1 = g t.k t.i ar s := ⟨_, rfl⟩
      have US1 := Lib.hid (show U64 s1 by rw [hs1]; exact HG.out _ _ _ _ HUa.out HUs.out)
      rw [← hs1] at S2 E
      clear hs1
      go_loopw [21] (fun i wr => ∃ m : Nat, m ≤ t.ks.length ∧ i = .int .i64 m ∧ St wr b (foldVL g (t.ks.take m) ar' s1) ∧ KeepX b w wr ∧ I wr) (fun i _ => t.ks.length - (intOf i).toNat)
      case atStart => exact ⟨0, Nat.zero_le _, rfl, by rw [List.take_zero, foldVL_nil]; exact S2.out, K2.out, IW2.out⟩
      case round =>
        obtain ⟨m, hm', rfl, hSr, hKr, hIr⟩ := hrel
        have SR := Lib.hid hSr
        have KR := Lib.hid hKr
        have IR := Lib.hid hIr
        have bel := hKr.below hB (show B ≤ w.heap.size by omega)
        have hzr := hKr.size
        clear hSr hKr hIr
        by_cases hlt : m < t.ks.length
        · obtain ⟨b', o, A', c', rfl, hlt', c0, c1, c2, hk⟩ := HT.out.kid m hlt
          have S := Lib.hid (foldVL_take g ar' t.ks m hlt s1)
          have kz := kid_sz t m hlt
          obtain ⟨q, hq'⟩ : ∃ q, q = t.ks[m] := ⟨_, rfl⟩
          rw [← hq'] at c0 c1 c2 hk kz S
          clear hq'
          have d0 := (bel.cell hlt').trans c0
          have d1 := (bel.cell hlt').trans c1
          have d2 := (bel.cell hlt').trans c2
          have ha : ∀ o, Below wr.heap.size wr (wr.alloc o) := fun o => (Below.refl _ _).alloc (Nat.le_refl _) _
          have HK := Lib.hid (fun o => (hk.keep bel (Nat.le_refl _)).keep ((ha o).mono (show B ≤ wr.heap.size by omega)) (Nat.le_refl _))
          have UF := Lib.hid (foldVL_U HG.out (t.ks.take m) ar' s1 UA'.out US1.out)
          obtain ⟨sv, hsv⟩ : ∃ sv, sv = foldVL g (t.ks.take m) ar' s1 := ⟨_, rfl⟩
          rw [← hsv] at S SR UF
          have HA := Lib.hid ha
          clear c0 c1 c2 hk hsv ha bel
          go_wp2_with fail
          refine (IH.out q A' c' ar' sv _ (by omega) (by exact HK.out _) UA'.out UF.out (by exact SR.out.keep (HA.out _)) (by exact HI.out _ _ (KeepX.of_below (HA.out _)) IR.out)).mono ?_
          rintro e w' ⟨rfl, hS3, hK3⟩
          have S3 := Lib.hid (show St w' b (foldVL g (t.ks.take (m + 1)) ar' s1) by rw [S.out]; exact hS3)
          have K3 := Lib.hid ((KeepX.of_below (b := b) (HA.out _)).trans hK3)
          clear hS3 hK3
          go_wp2_with fail
          go_roundw
          case rel => exact ⟨m + 1, by omega, by go_num, S3.out, KR.out.trans K3.out, HI.out _ _ K3.out IR.out⟩
          case measure => simp [intOf]; omega
        · obtain rfl : m = t.ks.length := by omega
          rw [List.take_length] at SR
          go_wp2_with fail
          go_end0
          exact ⟨rfl, by rw [E.out]; exact SR.out, KR.out⟩
    · rw [decide_eq_false hq]
      have E := Lib.hid (show foldV g t ar s = foldVL g t.ks ar (g t.k t.i ar s) by rw [FV.out, if_neg hq])
      clear hq
      go_wp2_with fail
      have K2 := Lib.hid ((KW1.out).trans (KeepX.of_below hb2))
      have S2 := Lib.hid (S1.out.keep hb2)
      clear hb2
      have IW2 := Lib.hid (HI.out _ _ K2.out Hi.out)
      obtain ⟨s1, hs1⟩ : ∃ s1, s1 = g t.k t.i ar s := ⟨_, rfl⟩
      have US1 := Lib.hid (show U64 s1 by rw [hs1]; exact HG.out _ _ _ _ HUa.out HUs.out)
      rw [← hs1] at S2 E
      clear hs1
      go_loopw [21] (fun i wr => ∃ m : Nat, m ≤ t.ks.length ∧ i = .int .i64 m ∧ St wr b (foldVL g (t.ks.take m) ar s1) ∧ KeepX b w wr ∧ I wr) (fun i _ => t.ks.length - (intOf i).toNat)
      case atStart => exact ⟨0, Nat.zero_le _, rfl, by rw [List.take_zero, foldVL_nil]; exact S2.out, K2.out, IW2.out⟩
      case round =>
        obtain ⟨m, hm', rfl, hSr, hKr, hIr⟩ := hrel
        have SR := Lib.hid hSr
        have KR := Lib.hid hKr
        have IR := Lib.hid hIr
        have bel := hKr.below hB (show B ≤ w.heap.size by omega)
        have hzr := hKr.size
        clear hSr hKr hIr
        by_cases hlt : m < t.ks.length
        · obtain ⟨b', o, A', c', rfl, hlt', c0, c1, c2, hk⟩ := HT.out.kid m hlt
          have S := Lib.hid (foldVL_take g ar t.ks m hlt s1)
          have kz := kid_sz t m hlt
          obtain ⟨q, hq'⟩ : ∃ q, q = t.ks[m] := ⟨_, rfl⟩
          rw [← hq'] at c0 c1 c2 hk kz S
          clear hq'
          have d0 := (bel.cell hlt').trans c0
          have d1 := (bel.cell hlt').trans c1
          have d2 := (bel.cell hlt').trans c2
          have ha : ∀ o, Below wr.heap.size wr (wr.alloc o) := fun o => (Below.refl _ _).alloc (Nat.le_refl _) _
          have HK := Lib.hid (fun o => (hk.keep bel (Nat.le_refl _)).keep ((ha o).mono (show B ≤ wr.heap.size by omega)) (Nat.le_refl _))
          have UF := Lib.hid (foldVL_U HG.out (t.ks.take m) ar s1 HUa.out US1.out)
          obtain ⟨sv, hsv⟩ : ∃ sv, sv = foldVL g (t.ks.take m) ar s1 := ⟨_, rfl⟩
          rw [← hsv] at S SR UF
          have HA := Lib.hid ha
          clear c0 c1 c2 hk hsv ha bel
          go_wp2_with fail
          refine (IH.out q A' c' ar sv _ (by omega) (by exact HK.out _) HUa.out UF.out (by exact SR.out.keep (HA.out _)) (by exact HI.out _ _ (KeepX.of_below (HA.out _)) IR.out)).mono ?_
          rintro e w' ⟨rfl, hS3, hK3⟩
          have S3 := Lib.hid (show St w' b (foldVL g (t.ks.take (m + 1)) ar s1) by rw [S.out]; exact hS3)
          have K3 := Lib.hid ((KeepX.of_below (b := b) (HA.out _)).trans hK3)
          clear hS3 hK3
          go_wp2_with fail
          go_roundw
          case rel => exact ⟨m + 1, by omega, by go_num, S3.out, KR.out.trans K3.out, HI.out _ _ K3.out IR.out⟩
          case measure => simp [intOf]; omega
        · obtain rfl : m = t.ks.length := by omega
          rw [List.take_length] at SR
          go_wp2_with fail
          go_end0
          exact ⟨rfl, by rw [E.out]; exact SR.out, KR.out⟩
end Go.Proofs.YtgnfbhemkombaaaGreat
