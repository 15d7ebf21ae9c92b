/- Formula and Term of the document's layer 3. -/
import Derived.Test.YtfleomamhkeiiaaP31
namespace Go.Proofs.Ytfleomamhkeiiaa
open Go.RowKit
set_option linter.unusedVariables false
set_option linter.unusedSimpArgs false
/-- what whole makes of what was read -/
theorem rwhole_any (s : ByteArray) (l : List Tok) (A : Option Addr) (c : Nat) (P : List Tok → PR) (w w0 : World) (e : Ending) (hs : s.size ≤ maxLen) (hl : l.length ≤ 8000) (hshp : ∀ t r, P l = .ok t r → t.shp = true) (h : IsToks w A c l) (hb : Below w0.heap.size w0 w) (hG : GotP w0 l (P l) e w) :
    ∃ v, e = .returned v ∧ Calls Try.prog 41 #[.string s, .slice A l.length c, v] w fun e' w' => Below w.heap.size w w' ∧ ExprPost w0 (wholeR P s.size (.ok l)) e' w' := by
  obtain ⟨hb1, hG⟩ := hG
  cases hP : P l with
  | bad r =>
    rw [hP] at hG
    obtain ⟨p2, hp2, rfl⟩ := hG
    have R : wholeR P s.size (.ok l) = .bad 32 (placeN s.size r) := by simp only [wholeR, hP]
    refine ⟨_, rfl, ?_⟩
    rw [R]
    cases r with
    | nil =>
      have := hp2.nil
      subst this
      refine (rwhole_end s 0 0 none 0 0 w hl hs).mono ?_
      rintro e' w' ⟨rfl, hb'⟩
      exact ⟨hb', hb.trans (hb'.mono hb.size), rfl⟩
    | cons t r =>
      refine (rwhole_tok s false 0 0 none 0 0 t r w h hp2 hl).mono ?_
      rintro e' w' ⟨rfl, hb'⟩
      exact ⟨hb', hb.trans (hb'.mono hb.size), rfl⟩
  | ok t r =>
    rw [hP] at hG
    obtain ⟨A2, c2, p2, hp2, rfl, ho⟩ := hG
    refine ⟨_, rfl, ?_⟩
    cases r with
    | cons y r =>
      have R : wholeR P s.size (.ok l) = .bad 32 y.p := by simp only [wholeR, hP]; rw [if_neg (by simp)]; rfl
      rw [R]
      refine (rwhole_tok s true t.k t.i A2 t.ks.length c2 y r w h hp2 hl).mono ?_
      rintro e' w' ⟨rfl, hb'⟩
      exact ⟨hb', hb.trans (hb'.mono hb.size), rfl⟩
    | nil =>
      have := hp2.nil
      subst this
      have hsh := hshp t [] hP
      have hx := right_exc hsh
      refine (rwhole_right s t A2 c2 w hl (ho.isT t (Nat.le_refl _) (fit_of_shp t hsh))).mono ?_
      rintro e' w' ⟨hb', rfl⟩
      refine ⟨hb', hb.trans (hb'.mono hb.size), ?_⟩
      by_cases h0 : rightN t = 0
      · have R : wholeR P s.size (.ok l) = .ok t := by simp only [wholeR, hP]; rw [if_pos trivial, if_pos (by rw [← hx]; exact h0)]
        rw [R, rightV_ok h0]
        exact ⟨A2, c2, rfl, (OwnT.same _ (fun k _ k2 => hb'.block k k2) ho).widen hb'.size⟩
      · have R : wholeR P s.size (.ok l) = .bad (rightN t) 0 := by simp only [wholeR, hP]; rw [if_pos trivial, if_neg (by rw [← hx]; exact h0), hx]
        rw [R, rightV_bad h0]
        rfl
theorem lexN_bad : ∀ (k : Nat) (i : Nat) (b : List Nat) (c j : Nat), b.length ≤ k → lexN i b = .bad c j → c ≠ 0 := by
  intro k
  induction k with
  | zero =>
    intro i b c j hk h
    have : b = [] := List.length_eq_zero_iff.1 (by omega)
    subst this
    rw [lexN_nil] at h
    cases h
  | succ k ih =>
    intro i b c j hk h
    cases b with
    | nil => rw [lexN_nil] at h; cases h
    | cons x r =>
      simp only [List.length_cons] at hk
      cases hs : stepN x r with
      | blank => rw [lexN_blank hs] at h; exact ih _ _ _ _ (by omega) h
      | err e =>
        rw [lexN_err hs] at h
        cases h
        unfold stepN at hs
        split at hs
        · cases hs
        · split at hs
          · cases hs
          · split at hs
            · cases hs; omega
            · split at hs
              · cases hs; omega
              · cases hs
      | tok kk n z =>
        rw [lexN_tok hs] at h
        cases hq : lexN (i + 1 + z) (r.drop z) with
        | bad a b => rw [hq] at h; cases h; exact ih _ _ _ _ (by rw [List.length_drop]; omega) hq
        | ok l' => rw [hq] at h; cases h
theorem lexAll_bad {b : List Nat} {c j : Nat} (h : lexAll b = .bad c j) : c ≠ 0 := by
  unfold lexAll at h
  by_cases hb : 8000 < b.length
  · rw [if_pos hb] at h; cases h; omega
  · rw [if_neg hb] at h
    exact lexN_bad _ _ _ _ _ (Nat.le_refl _) h
set_option maxHeartbeats 2000000 in
set_option maxRecDepth 100000 in
theorem rformula_any (s : ByteArray) (w : World) (hs : s.size ≤ maxLen) :
    Calls Try.prog 14 #[.string s] w (ExprPost w (wholeR (formP 16100) s.size (lexAll (bytesN s)))) := by
  have hb0 : Below w.heap.size w (w.alloc (.cells #[.int .i64 0, .int .i64 0, .slice none 0 0] 24)) := (Below.refl _ _).alloc (Nat.le_refl _) _
  have E0 := Lib.hid (Box3.new w (.int .i64 0) (.int .i64 0) (.slice none 0 0))
  have TC := Lib.hid (fun W => rtokens_any s W hs)
  have HB0 := Lib.hid hb0
  clear hb0
  cases hL : lexAll (bytesN s) with
  | bad c i =>
    rw [hL] at TC
    have hc := lexAll_bad hL
    have hc' : ((c : Int) != 0) = true := by rw [bne_iff_ne]; omega
    go_enter Try.func14, Try.ntmps14
    go_wp2_with fail
    refine (TC.out _).mono ?_
    rintro e w1 ⟨hb1, rfl⟩
    have b3 := E0.out.keep hb1 (by simp)
    obtain ⟨y0, y1, y2⟩ := b3.cells
    have f0 := b3.frozen 0
    have f1 := b3.frozen 1
    have f2 := b3.frozen 2
    have BB := Lib.hid (HB0.out.trans (hb1.mono HB0.out.size))
    clear b3 hb1
    go_wp2_with fail
    refine bodyPost_ret (v := .tuple #[.agg #[.int .i64 0, .int .i64 0, .slice none 0 0], .int .i64 (c : Int), .int .i64 (i : Int)]) (by simp [results, Try.results14, go_sem, y0, y1, y2]) rfl ?_
    exact ⟨below_set3 BB.out _ _ _ (Nat.le_refl _), rfl⟩
  | ok l =>
    have hl := lexAll_len hL
    have hok := lexAll_ok hL
    rw [hL] at TC
    go_enter Try.func14, Try.ntmps14
    go_wp2_with fail
    refine (TC.out _).mono ?_
    rintro e w1 ⟨hb1, v1, rfl, ho1⟩
    obtain ⟨A1, c1, rfl, i1⟩ := tok_rows ho1
    have I1 := Lib.hid (show IsToks w1 A1 c1 l from i1)
    have B1 := Lib.hid (E0.out.keep hb1 (by simp))
    have BB := Lib.hid (HB0.out.trans (hb1.mono HB0.out.size))
    have hz1 : w.heap.size < w1.heap.size := B1.out.lt
    have FC := Lib.hid (rform_any (A := A1) (c := c1) hl 16100 l 0 w1 (by omega) (Pos.start l) I1.out)
    clear hb1 ho1 i1
    go_wp2_with fail
    refine FC.out.mono ?_
    intro e w2 hG
    have hb2 := hG.1
    have hz2 := hb2.size
    obtain ⟨v, rfl, hW⟩ := rwhole_any s l A1 c1 (formP 16100) w2 w1 e hs hl (fun t r e => (formP_shp 16100 l t r hok e).1.1) (I1.out.keep hb2) hb2 hG
    have HW := Lib.hid hW
    have B2 := Lib.hid (B1.out.keep hb2 hz1)
    clear hG hW
    go_wp2_with fail
    refine HW.out.mono ?_
    rintro e w3 ⟨hb3, hE⟩
    have b3 := B2.out.keep hb3 B2.out.lt
    obtain ⟨y0, y1, y2⟩ := b3.cells
    have f0 := b3.frozen 0
    have f1 := b3.frozen 1
    have f2 := b3.frozen 2
    have hz3 := hb3.size
    have BX := Lib.hid (BB.out.trans (hE.1.mono BB.out.size))
    clear b3 hb3 hb2
    cases hR : wholeR (formP 16100) s.size (.ok l) with
    | bad c i =>
      rw [hR] at hE
      obtain ⟨_, rfl⟩ := hE
      go_wp2_with fail
      refine bodyPost_ret (v := .tuple #[.agg #[.int .i64 0, .int .i64 0, .slice none 0 0], .int .i64 (c : Int), .int .i64 (i : Int)]) (by simp [results, Try.results14, go_sem, y0, y1, y2]) rfl ?_
      rw [hR]
      exact ⟨below_set3 BX.out _ _ _ (Nat.le_refl _), rfl⟩
    | ok t =>
      rw [hR] at hE
      obtain ⟨_, A3, c3, rfl, ho⟩ := hE
      go_wp2_with fail
      refine bodyPost_ret (v := .tuple #[.agg #[.int .i64 t.k, .int .i64 t.i, .slice A3 t.ks.length c3], .int .i64 0, .int .i64 0]) (by simp [results, Try.results14, go_sem, y0, y1, y2]) rfl ?_
      rw [hR]
      exact ⟨below_set3 BX.out _ _ _ (Nat.le_refl _), A3, c3, rfl, ((OwnT.same _ (fun k k1 k2 => set3_other _ _ _ _ _ _ (by omega)) ho).widen (by rw [set3_size]; exact Nat.le_refl _)).lower (by omega)⟩
set_option maxHeartbeats 2000000 in
set_option maxRecDepth 100000 in
theorem rtermf_any (s : ByteArray) (w : World) (hs : s.size ≤ maxLen) :
    Calls Try.prog 17 #[.string s] w (ExprPost w (wholeR (termP 16100) s.size (lexAll (bytesN s)))) := by
  have hb0 : Below w.heap.size w (w.alloc (.cells #[.int .i64 0, .int .i64 0, .slice none 0 0] 24)) := (Below.refl _ _).alloc (Nat.le_refl _) _
  have E0 := Lib.hid (Box3.new w (.int .i64 0) (.int .i64 0) (.slice none 0 0))
  have TC := Lib.hid (fun W => rtokens_any s W hs)
  have HB0 := Lib.hid hb0
  clear hb0
  cases hL : lexAll (bytesN s) with
  | bad c i =>
    rw [hL] at TC
    have hc := lexAll_bad hL
    have hc' : ((c : Int) != 0) = true := by rw [bne_iff_ne]; omega
    go_enter Try.func17, Try.ntmps17
    go_wp2_with fail
    refine (TC.out _).mono ?_
    rintro e w1 ⟨hb1, rfl⟩
    have b3 := E0.out.keep hb1 (by simp)
    obtain ⟨y0, y1, y2⟩ := b3.cells
    have f0 := b3.frozen 0
    have f1 := b3.frozen 1
    have f2 := b3.frozen 2
    have BB := Lib.hid (HB0.out.trans (hb1.mono HB0.out.size))
    clear b3 hb1
    go_wp2_with fail
    refine bodyPost_ret (v := .tuple #[.agg #[.int .i64 0, .int .i64 0, .slice none 0 0], .int .i64 (c : Int), .int .i64 (i : Int)]) (by simp [results, Try.results17, go_sem, y0, y1, y2]) rfl ?_
    exact ⟨below_set3 BB.out _ _ _ (Nat.le_refl _), rfl⟩
  | ok l =>
    have hl := lexAll_len hL
    have hok := lexAll_ok hL
    rw [hL] at TC
    go_enter Try.func17, Try.ntmps17
    go_wp2_with fail
    refine (TC.out _).mono ?_
    rintro e w1 ⟨hb1, v1, rfl, ho1⟩
    obtain ⟨A1, c1, rfl, i1⟩ := tok_rows ho1
    have I1 := Lib.hid (show IsToks w1 A1 c1 l from i1)
    have B1 := Lib.hid (E0.out.keep hb1 (by simp))
    have BB := Lib.hid (HB0.out.trans (hb1.mono HB0.out.size))
    have hz1 : w.heap.size < w1.heap.size := B1.out.lt
    have FC := Lib.hid (rterm_any (A := A1) (c := c1) hl 16100 l 0 w1 (by omega) (Pos.start l) I1.out)
    clear hb1 ho1 i1
    go_wp2_with fail
    refine FC.out.mono ?_
    intro e w2 hG
    have hb2 := hG.1
    have hz2 := hb2.size
    obtain ⟨v, rfl, hW⟩ := rwhole_any s l A1 c1 (termP 16100) w2 w1 e hs hl (fun t r e => (termP_shp 16100 l t r hok e).1.1) (I1.out.keep hb2) hb2 hG
    have HW := Lib.hid hW
    have B2 := Lib.hid (B1.out.keep hb2 hz1)
    clear hG hW
    go_wp2_with fail
    refine HW.out.mono ?_
    rintro e w3 ⟨hb3, hE⟩
    have b3 := B2.out.keep hb3 B2.out.lt
    obtain ⟨y0, y1, y2⟩ := b3.cells
    have f0 := b3.frozen 0
    have f1 := b3.frozen 1
    have f2 := b3.frozen 2
    have hz3 := hb3.size
    have BX := Lib.hid (BB.out.trans (hE.1.mono BB.out.size))
    clear b3 hb3 hb2
    cases hR : wholeR (termP 16100) s.size (.ok l) with
    | bad c i =>
      rw [hR] at hE
      obtain ⟨_, rfl⟩ := hE
      go_wp2_with fail
      refine bodyPost_ret (v := .tuple #[.agg #[.int .i64 0, .int .i64 0, .slice none 0 0], .int .i64 (c : Int), .int .i64 (i : Int)]) (by simp [results, Try.results17, go_sem, y0, y1, y2]) rfl ?_
      rw [hR]
      exact ⟨below_set3 BX.out _ _ _ (Nat.le_refl _), rfl⟩
    | ok t =>
      rw [hR] at hE
      obtain ⟨_, A3, c3, rfl, ho⟩ := hE
      go_wp2_with fail
      refine bodyPost_ret (v := .tuple #[.agg #[.int .i64 t.k, .int .i64 t.i, .slice A3 t.ks.length c3], .int .i64 0, .int .i64 0]) (by simp [results, Try.results17, go_sem, y0, y1, y2]) rfl ?_
      rw [hR]
      exact ⟨below_set3 BX.out _ _ _ (Nat.le_refl _), A3, c3, rfl, ((OwnT.same _ (fun k k1 k2 => set3_other _ _ _ _ _ _ (by omega)) ho).widen (by rw [set3_size]; exact Nat.le_refl _)).lower (by omega)⟩
end Go.Proofs.Ytfleomamhkeiiaa
