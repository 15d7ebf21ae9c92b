/- read of package parse, walked. -/
import Derived.Test.YtgnfbhemkombaaaDoorP19
namespace Go.Proofs.YtgnfbhemkombaaaDoor
open Go.RowKit
set_option linter.unusedVariables false
theorem below_keepR {b B : Nat} {w w' : World} (h : KeepR b w w') (hb : B ≤ b) (hs : B ≤ w.heap.size) : Below B w w' :=
  ⟨h.os, h.tape, h.output, h.size, fun k hk => h.block k (by omega) (by omega)⟩
set_option maxHeartbeats 8000000 in
set_option maxRecDepth 100000 in
theorem pread_any (n : Nat) (p : List Tok → PR) (hE : ∀ (args : Array Value) (w : World), Sem.run Tryd.prog (callFunc n args) w = .ok (.enter n args) w) (hR : ∀ (b : Nat) (A : Option Addr) (c : Nat) (l : List Tok) (sl : Nat) (w : World), l.length ≤ 8000 → Rdr w b A c l l sl 0 0 → Calls Tryd.prog n #[.pointer (some ⟨b, 0, none⟩), .int .i64 1] w (ReadP b A c l sl 0 0 1 w (p l))) (s : ByteArray) (w : World) (hs : s.size ≤ maxLen) :
    Calls Tryd.prog 36 #[.string s, .func (.func n) #[] #[]] w (WholeP w (wholeR p s.size (lexAll (bytesN s)))) := by
  have HR := Lib.hid hR
  obtain ⟨x, hx⟩ : ∃ x, x = lexAll (bytesN s) := ⟨_, rfl⟩
  have PC := Lib.hid (fun W => pcut_any s W hs)
  rw [← hx] at PC ⊢
  have ha : Below w.heap.size w (w.alloc (.cells #[.int .i64 0, .int .i64 0, .slice none 0 0] 24)) := (Below.refl _ _).alloc (Nat.le_refl _) _
  have H0 := Lib.hid ha
  have B0 := Lib.hid (Box3.new w (.int .i64 0) (.int .i64 0) (.slice none 0 0))
  clear hR ha
  cases x with
  | bad cc i =>
    clear hx
    go_enter Tryd.func36, Tryd.ntmps36
    go_wp2_with fail
    refine (PC.out _).mono ?_
    rintro e w2 ⟨hb2, rfl⟩
    go_wp2_with fail
    refine ⟨rfl, ?_⟩
    exact ⟨H0.out.trans (hb2.mono (by rw [World.size_alloc]; omega)), rfl⟩
  | ok l =>
    have hl := lexAll_len hx.symm
    clear hx
    go_enter Tryd.func36, Tryd.ntmps36
    go_wp2_with fail
    refine (PC.out _).mono ?_
    rintro e w2 ⟨hb2, v, rfl, ho⟩
    obtain ⟨A, c, rfl, R2⟩ := Rdr.start (w := w) (sl := s.size) ho
    have B2 := Lib.hid (B0.out.keep hb2 (by rw [World.size_alloc]; omega))
    have H2 := Lib.hid (H0.out.trans (hb2.mono (by rw [World.size_alloc]; omega)))
    have RC := Lib.hid (HR.out w2.heap.size A c l s.size _ hl R2)
    clear hb2 ho PC
    go_wp2_with fail
    refine RC.out.mono ?_
    clear RC
    have aR : Below w2.heap.size w2 (w2.alloc (.cells #[.slice A l.length c, .int .i64 0, .int .i64 (s.size : Int), .int .i64 0, .int .i64 0] 101)) := (Below.refl _ _).alloc (Nat.le_refl _) _
    have hz2 : w.heap.size + 1 ≤ w2.heap.size := B2.out.lt
    cases hP : p l with
    | bad r' =>
      rintro e w5 ⟨hk5, rfl⟩
      go_wp2_with fail
      refine ⟨rfl, ?_⟩
      refine ⟨(H2.out.trans (aR.mono (by omega))).trans (below_keepR hk5 (by omega) (by rw [World.size_alloc]; omega)), ?_⟩
      simp only [wholeR, hP]
    | ok t r' =>
      rintro e w5 ⟨hk5, hr5, v5, rfl, x, y, A5, n5, c5, rfl, hv5⟩
      have a5 : Below w5.heap.size w5 (w5.alloc (.cells #[.int .i64 x, .int .i64 y, .slice A5 n5 c5] 24)) := (Below.refl _ _).alloc (Nat.le_refl _) _
      have R5 := Lib.hid (hr5.keep a5)
      have hsuf := hr5.suf.length_le
      have hbl := R5.out.cells
      obtain ⟨N, hN⟩ : ∃ N, N = l.length - r'.length := ⟨_, rfl⟩
      rw [← hN] at hbl
      obtain ⟨q0, q1, q2, q3, q4⟩ := hbl
      have E5 := Lib.hid (Box3.new w5 (.int .i64 x) (.int .i64 y) (.slice A5 n5 c5))
      have K5 := Lib.hid ((H2.out.trans (aR.mono (by omega))).trans (below_keepR hk5 (by omega) (by rw [World.size_alloc]; omega)))
      have V5 := Lib.hid hv5
      have B5 := Lib.hid (((B2.out.keep aR B2.out.lt).keepR hk5 (by omega)).keep a5 ((B2.out.keep aR B2.out.lt).keepR hk5 (by omega)).lt)
      have R5z : w2.heap.size + 1 ≤ w5.heap.size := hr5.lt
      clear hk5 hr5 hv5 aR
      go_wp2_with fail
      by_cases hr : r' = []
      · have hlt : ¬ ((N : Int) < (l.length : Int)) := by rw [hN, hr]; simp
        go_region
        have hz5 : w2.heap.size + 1 ≤ w5.heap.size := R5z
        have S5 := Lib.hid (show ∀ k, k < w5.heap.size → (w5.alloc (.cells #[.int .i64 x, .int .i64 y, .slice A5 n5 c5] 24)).drew.heap[k]? = w5.heap[k]? from fun k hk => a5.block k hk)
        have Z5 : w5.heap.size ≤ (w5.alloc (.cells #[.int .i64 x, .int .i64 y, .slice A5 n5 c5] 24)).drew.heap.size := a5.size
        have R8 := Lib.hid (show Rdr (w5.alloc (.cells #[.int .i64 x, .int .i64 y, .slice A5 n5 c5] 24)).drew w2.heap.size A c l r' s.size (0 + t.sz) (max 0 (1 + dpL t.ks)) from ⟨R5.out.blk, R5.out.toks, R5.out.ne, R5.out.suf⟩)
        have E8 : Box3 (w5.alloc (.cells #[.int .i64 x, .int .i64 y, .slice A5 n5 c5] 24)).drew w5.heap.size (.int .i64 x) (.int .i64 y) (.slice A5 n5 c5) := E5.out
        have B8 : Box3 (w5.alloc (.cells #[.int .i64 x, .int .i64 y, .slice A5 n5 c5] 24)).drew w.heap.size (.int .i64 0) (.int .i64 0) (.slice none 0 0) := B5.out
        have K8 := Lib.hid (show Below w.heap.size w (w5.alloc (.cells #[.int .i64 x, .int .i64 y, .slice A5 n5 c5] 24)).drew from let h := K5.out.trans (a5.mono (by omega)); ⟨h.os, h.tape, h.output, h.size, h.block⟩)
        clear q0 q1 q2 q3 q4 R5 E5 B5 a5
        generalize (w5.alloc (.cells #[.int .i64 x, .int .i64 y, .slice A5 n5 c5] 24)).drew = W8 at S5 Z5 R8 E8 B8 K8 ⊢
        obtain ⟨m0, m1, m2⟩ := E8.cells
        obtain ⟨y0, y1, y2⟩ := B8.cells
        have g0 := B8.frozen 0
        have g1 := B8.frozen 1
        have g2 := B8.frozen 2
        go_wp2_with fail
        refine (excess_any W8 R8.out).mono ?_
        rintro e w9 ⟨rfl, hw9⟩
        rw [← hw9]
        clear hw9
        obtain ⟨xc, hxc⟩ : ∃ xc, xc = excN (0 + t.sz) (max 0 (1 + dpL t.ks)) := ⟨_, rfl⟩
        have V9 := Lib.hid V5.out
        rw [← hxc] at V9 ⊢
        have hxc' : xc = excN t.sz (1 + dpL t.ks) := by rw [hxc]; congr 1 <;> omega
        by_cases h0 : xc = 0
        · have P := Lib.hid (show wholeR p s.size (.ok l) = .ok t by simp only [wholeR, hP]; rw [if_pos hr, if_pos (by rw [← hxc']; exact h0)])
          have e0 : ((xc : Int) == 0) = true := by simp [h0]
          obtain ⟨rfl, rfl, rfl, hO⟩ := V9.out h0
          have O9 := Lib.hid hO
          clear hO V9 V5 hxc hxc' h0
          go_wp2_with fail
          refine bodyPost_ret (v := .agg #[.int .i64 t.k, .int .i64 t.i, .slice A5 t.ks.length c5]) (by simp [results, Tryd.results36, go_sem, y0, y1, y2]) rfl ?_
          rw [P.out]
          refine ⟨K8.out.trans ((((Below.refl _ _).setCell (p := ⟨w.heap.size, 0, none⟩) (Nat.le_refl _) _).setCell (p := ⟨w.heap.size, 1, none⟩) (Nat.le_refl _) _).setCell (p := ⟨w.heap.size, 2, none⟩) (Nat.le_refl _) _), A5, c5, rfl, ?_⟩
          have := OwnT.same (w' := ((W8.setCell ⟨w.heap.size, 0, none⟩ (.int .i64 t.k)).setCell ⟨w.heap.size, 1, none⟩ (.int .i64 t.i)).setCell ⟨w.heap.size, 2, none⟩ (.slice A5 t.ks.length c5)) _ (fun k hk1 hk2 => (set3_other _ _ _ _ _ _ (by rw [World.size_alloc] at hk1; omega)).trans (S5.out k hk2)) O9.out
          exact (this.widen (by rw [set3_size]; exact Z5)).lower (by rw [World.size_alloc]; omega)
        · have P := Lib.hid (show wholeR p s.size (.ok l) = .bad xc 0 by simp only [wholeR, hP]; rw [if_pos hr, if_neg (by rw [← hxc']; exact h0), ← hxc'])
          have e0 : ((xc : Int) == 0) = false := by rw [beq_eq_false_iff_ne]; omega
          clear V9 V5 hxc hxc' h0
          go_wp2_with fail
          refine ⟨rfl, ?_⟩
          rw [P.out]
          exact ⟨K8.out, rfl⟩
      · have hlt : (N : Int) < (l.length : Int) := by
          have : r'.length ≠ 0 := fun h => hr (List.length_eq_zero_iff.1 h)
          omega
        have P := Lib.hid (show wholeR p s.size (.ok l) = .bad 32 (placeN s.size r') by simp only [wholeR, hP]; rw [if_neg hr])
        go_region
        have hz5 : w2.heap.size + 1 ≤ w5.heap.size := R5z
        have S5 := Lib.hid (show ∀ k, k < w5.heap.size → (w5.alloc (.cells #[.int .i64 x, .int .i64 y, .slice A5 n5 c5] 24)).drew.heap[k]? = w5.heap[k]? from fun k hk => a5.block k hk)
        have Z5 : w5.heap.size ≤ (w5.alloc (.cells #[.int .i64 x, .int .i64 y, .slice A5 n5 c5] 24)).drew.heap.size := a5.size
        have R8 := Lib.hid (show Rdr (w5.alloc (.cells #[.int .i64 x, .int .i64 y, .slice A5 n5 c5] 24)).drew w2.heap.size A c l r' s.size (0 + t.sz) (max 0 (1 + dpL t.ks)) from ⟨R5.out.blk, R5.out.toks, R5.out.ne, R5.out.suf⟩)
        have E8 : Box3 (w5.alloc (.cells #[.int .i64 x, .int .i64 y, .slice A5 n5 c5] 24)).drew w5.heap.size (.int .i64 x) (.int .i64 y) (.slice A5 n5 c5) := E5.out
        have B8 : Box3 (w5.alloc (.cells #[.int .i64 x, .int .i64 y, .slice A5 n5 c5] 24)).drew w.heap.size (.int .i64 0) (.int .i64 0) (.slice none 0 0) := B5.out
        have K8 := Lib.hid (show Below w.heap.size w (w5.alloc (.cells #[.int .i64 x, .int .i64 y, .slice A5 n5 c5] 24)).drew from let h := K5.out.trans (a5.mono (by omega)); ⟨h.os, h.tape, h.output, h.size, h.block⟩)
        clear q0 q1 q2 q3 q4 R5 E5 B5 a5
        generalize (w5.alloc (.cells #[.int .i64 x, .int .i64 y, .slice A5 n5 c5] 24)).drew = W8 at S5 Z5 R8 E8 B8 K8 ⊢
        go_wp2_with fail
        refine (refusal_any _ R8.out hl).mono ?_
        rintro e w9 ⟨rfl, hb9⟩
        go_wp2_with fail
        refine ⟨rfl, ?_⟩
        rw [P.out]
        exact ⟨K8.out.trans (hb9.mono (by omega)), rfl⟩
end Go.Proofs.YtgnfbhemkombaaaDoor
