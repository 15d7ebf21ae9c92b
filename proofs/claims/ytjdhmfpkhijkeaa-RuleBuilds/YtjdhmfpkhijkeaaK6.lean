/- plain of package rule: the plain form, built. -/
import Derived.Test.YtjdhmfpkhijkeaaK5
import Derived.Test.YtjdhmfpkhijkeaaE17
namespace Go.Proofs.Ytjdhmfpkhijkeaa
open Go.RowKit
set_option linter.unusedVariables false
set_option linter.unusedSimpArgs false
theorem FrT.grow {X : Nat → Prop} {W W' : World} {t : Tr} {A : Option Addr} {c : Nat} (h : FrT X W t A c) (hb : Below W.heap.size W W') : FrT (fun k => X k ∨ W.heap.size ≤ k) W' t A c :=
  fun W'' h1 h2 => h W'' (fun k hk hn => (h1 k (by have := hb.size; omega) (fun hx => by rcases hx with hx | hx; exact hn hx; omega)).trans (hb.block k hk)) (by have := hb.size; omega)
/-- what plain holds while it fills the kids -/
structure PL (w W : World) (n : Nat) (u : Tr) (A : Option Addr) (c m : Nat) (cs : List (Option Addr × Nat)) : Prop where
  res : Box3 W (w.heap.size + 1) (.int .i64 0) (.int .i64 0) (.slice none 0 0)
  box : Box3 W n (.int .i64 u.k) (.int .i64 u.i) (.slice (some ⟨n + 1, 0, none⟩) u.ks.length u.ks.length)
  fill : Fill W (n + 1) (n + 1) u.ks.length (plainL u.ks) m cs
  tree : FrT (fun k => (w.heap.size ≤ k ∧ k < w.heap.size + 2) ∨ n ≤ k) W u A c
  bel : Below w.heap.size w W
theorem plain_node (t : Tr) : (plainT t).k = (unfT t).k ∧ (plainT t).i = (unfT t).i ∧ (plainT t).ks = plainL (unfT t).ks := by
  rw [plain_unf]; exact ⟨rfl, rfl, rfl⟩
set_option maxHeartbeats 4000000 in
set_option maxRecDepth 100000 in
theorem plain_any : ∀ (N : Nat) (t : Tr) (A : Option Addr) (c : Nat) (w : World), (plainT t).sz ≤ N → t.shp = true → IsT w w.heap.size t A c →
    Calls Try.prog 68 #[.agg #[.int .i64 t.k, .int .i64 t.i, .slice A t.ks.length c]] w (NewT w (plainT t)) := by
  intro N
  induction N with
  | zero => intro t A c w h; have := sz_pos (plainT t); omega
  | succ N ih =>
    intro t A c w hN hs ht
    have IH := Lib.hid ih
    have HS := Lib.hid (unfT_kids hs)
    have KZ := Lib.hid (fun q => @plain_kid t q)
    have PN := Lib.hid (plain_node t)
    have CU := Lib.hid (fun (B : Nat) (w0 : World) (hB : B ≤ w0.heap.size) (h : IsT w0 B t A c) => cunf_any t A c B w0 hB h hs)
    have Z := Lib.hid (zero_box w (.int .i64 t.k) (.int .i64 t.i) (.slice A t.ks.length c))
    have T2 := Lib.hid (ht.keep (B' := w.heap.size) Z.out.1 (Nat.le_refl _))
    obtain ⟨p0, p1, p2⟩ := Z.out.2.1.cells
    clear ih ht hs
    obtain ⟨i0, hi, hz0, hz1, hz2⟩ := info_parts infoE
    go_enter Try.func68, Try.ntmps68
    go_wp2_with fail
    refine (CU.out w.heap.size _ (by simp; omega) (by exact T2.out)).mono ?_
    rintro e w4 ⟨A1, c1, rfl, hf, hb4⟩
    have zz := Z.out.2.2.lt
    have PB := Lib.hid (Z.out.2.1.keep hb4 Z.out.2.1.lt)
    have RB := Lib.hid (Z.out.2.2.keep hb4 Z.out.2.2.lt)
    have B4 := Lib.hid (Z.out.1.trans (hb4.mono Z.out.1.size))
    have F4 := Lib.hid (hf.less (Y := fun k => w.heap.size ≤ k ∧ k < w.heap.size + 2) (fun k hk => by simp; omega))
    obtain ⟨u, hu⟩ : ∃ u, u = unfT t := ⟨_, rfl⟩
    rw [← hu] at F4 HS KZ PN ⊢
    clear p0 p1 p2 hf hb4 Z T2 CU zz hu
    obtain ⟨p0, p1, p2⟩ := PB.out.cells
    have f0 := PB.out.frozen 0
    have f1 := PB.out.frozen 1
    have f2 := PB.out.frozen 2
    go_upto_region 2 with fail
    obtain ⟨W4, hW4⟩ : ∃ W4, W4 = (((w4.setCell ⟨w.heap.size, 0, none⟩ (.int .i64 u.k)).setCell ⟨w.heap.size, 1, none⟩ (.int .i64 u.i)).setCell ⟨w.heap.size, 2, none⟩ (.slice A1 u.ks.length c1)) := ⟨_, rfl⟩
    rw [← hW4]
    have PB4 := Lib.hid (show Box3 W4 w.heap.size (.int .i64 u.k) (.int .i64 u.i) (.slice A1 u.ks.length c1) by rw [hW4]; exact PB.out.setall _ _ _)
    have RB4 := Lib.hid (show Box3 W4 (w.heap.size + 1) (.int .i64 0) (.int .i64 0) (.slice none 0 0) by
      rw [hW4]; exact ((RB.out.set_other _ _ (by show w.heap.size + 1 ≠ w.heap.size; omega)).set_other _ _ (by show w.heap.size + 1 ≠ w.heap.size; omega)).set_other _ _ (by show w.heap.size + 1 ≠ w.heap.size; omega))
    have F5 := Lib.hid (show FrT (fun k => w.heap.size ≤ k ∧ k < w.heap.size + 2) W4 u A1 c1 by rw [hW4]; exact F4.out.set3 ⟨Nat.le_refl _, by omega⟩ _ _ _)
    have B5 := Lib.hid (show Below w.heap.size w W4 by rw [hW4]; exact below_set3 B4.out _ _ _ (Nat.le_refl _))
    clear hW4 p0 p1 p2 f0 f1 f2 PB RB F4 B4
    obtain ⟨n, hn⟩ : ∃ n, n = W4.heap.size := ⟨_, rfl⟩
    have hn1 : w.heap.size + 2 ≤ n := by have := RB4.out.lt; omega
    have e5 := alB W4 (.cells #[.int .i64 u.k, .int .i64 u.i, .slice none 0 0] 24)
    have n5 := Box3.new W4 (.int .i64 u.k) (.int .i64 u.i) (.slice none 0 0)
    obtain ⟨p0, p1, p2⟩ := PB4.out.cells
    have x2 := (PB4.out.keep e5 PB4.out.lt).cells.2.2
    have hl := F5.out.isT.len
    rw [← hn] at n5
    have HN := Lib.hid hn
    clear hn
    by_cases h0 : u.ks.length = 0
    · have hks : u.ks = [] := List.eq_nil_of_length_eq_zero h0
      have h0' : ¬ (0 : Int) < (u.ks.length : Int) := by omega
      have S0 := Lib.hid (And.intro (RB4.out.keep e5 RB4.out.lt) (And.intro n5 (B5.out.trans (e5.mono B5.out.size))))
      rw [h0] at x2
      have HK := Lib.hid hks
      clear hks p0 p1 p2 e5 n5
      obtain ⟨p0, p1, p2⟩ := PB4.out.cells
      rw [h0] at p2
      go_wp2_with fail
      rw [← HN.out]
      go_loopw [25] (fun i wr => i = .int .i64 0 ∧ Box3 wr (w.heap.size + 1) (.int .i64 0) (.int .i64 0) (.slice none 0 0) ∧ Box3 wr n (.int .i64 u.k) (.int .i64 u.i) (.slice none 0 0) ∧ Below w.heap.size w wr) (fun _ _ => 0)
      case atStart => exact ⟨rfl, S0.out.1, S0.out.2.1, S0.out.2.2⟩
      case round =>
        obtain ⟨rfl, hb1, hb2, hbr⟩ := hrel
        obtain ⟨x0, x1, x2⟩ := hb2.cells
        obtain ⟨y0, y1, y2⟩ := hb1.cells
        have f0 := hb1.frozen 0
        have f1 := hb1.frozen 1
        have f2 := hb1.frozen 2
        have HB1 := Lib.hid hb1
        clear hb1 hb2
        obtain ⟨q0, q1, q2⟩ := (HB1.out.setall (.int .i64 u.k) (.int .i64 u.i) (.slice none 0 0)).cells
        go_wp2_with fail
        refine bodyPost_ret (v := .agg #[.int .i64 u.k, .int .i64 u.i, .slice none 0 0]) (by simp [results, Try.results68, go_sem, q0, q1, q2]) rfl (show NewT w (plainT t) _ _ from ⟨none, 0, ?_, ?_, ?_⟩)
        · obtain ⟨a, b, d⟩ := PN.out; rw [a, b, d, HK.out]; rfl
        · exact ownT_leaf _ _ _ (by have := hbr.size; simp; omega) _ (by rw [PN.out.2.2, HK.out]; rfl)
        · exact below_set3 hbr _ _ _ (by omega)
    · have h0' : (0 : Int) < (u.ks.length : Int) := by omega
      have S0 := Lib.hid (And.intro (RB4.out.keep e5 RB4.out.lt) (And.intro n5 (B5.out.trans (e5.mono B5.out.size))))
      have FG := Lib.hid (F5.out.grow e5)
      have z5 : (W4.alloc (.cells #[.int .i64 u.k, .int .i64 u.i, .slice none 0 0] 24)).heap.size = n + 1 := by rw [HN.out]; simp
      rw [← HN.out] at FG
      clear e5 n5
      go_wp2_with (at_make; refine wpList_make_full _ rfl _ _ 22 rfl (n + 1) 24 i0 _ 3 Try.underlying22 hi hz0 hz1 _ _ _ _ u.ks.length rfl rfl rfl rfl ?b2 ?b3 ?b4 ?_)
      case b2 => rw [hz2]; omega
      case b3 => unfold maxLen; omega
      case b4 => rw [z5]; exact Nat.le_refl _
      intro w3 own3 grow3
      have b3 := below_grown grow3
      rw [z5] at b3
      rw [← HN.out]
      have hs3 := b3.size
      have F0 : Fill w3 (n + 1) (n + 1) u.ks.length (plainL u.ks) 0 [] := Fill.start own3
      have y0 := S0.out.2.1.keep b3 (by omega)
      have P0 : Box3 w3 w.heap.size (.int .i64 u.k) (.int .i64 u.i) (.slice A1 u.ks.length c1) := (PB4.out.keep (alB W4 _) PB4.out.lt).keep b3 (by omega)
      have L0 : PL w (w3.setCell ⟨n, 2, none⟩ (.slice (some ⟨n + 1, 0, none⟩) u.ks.length u.ks.length)) n u A1 c1 0 [] := by
        refine ⟨(S0.out.1.keep b3 (by omega)).set_other _ _ (by show w.heap.size + 1 ≠ n; omega), y0.set2 _, ⟨rfl, ?_, ?_⟩, ?_, (S0.out.2.2.trans (b3.mono (by omega))).setCell (p := ⟨n, 2, none⟩) (show w.heap.size ≤ n by omega) _⟩
        · exact ownsRow_same (hi := w3.heap.size) F0.own (fun k k1 _ => heap_setCell_other _ _ _ _ (by show k ≠ n; omega)) (fun k e => (F0.own.lt k e).2)
        · have : n + 1 < w3.heap.size := (F0.own.lt (n + 1) rfl).2
          simp [plainL, OwnL]; omega
        · exact (FG.out.keep (b3.mono (by rw [z5]; exact Nat.le_refl _))).move (fun k hk hn' => heap_setCell_other _ _ _ _ (by show k ≠ n; intro e; exact hn' (.inr (by omega)))) (by simp)
      have y2 := y0.frozen 2
      have y1 := y0.cells.2.2
      obtain ⟨p0, p1, p2⟩ := (P0.set_other ⟨n, 2, none⟩ (.slice (some ⟨n + 1, 0, none⟩) u.ks.length u.ks.length) (by show w.heap.size ≠ n; omega)).cells
      have q2 := P0.cells.2.2
      have LL := Lib.hid L0
      clear own3 grow3 b3 F0 L0 P0 S0 FG y0 x2 PB4 RB4 F5 B5
      go_wp2_with fail
      go_loopw [25] (fun i wr => ∃ (m : Nat) (cs : List (Option Addr × Nat)), m ≤ u.ks.length ∧ i = .int .i64 m ∧ PL w wr n u A1 c1 m cs) (fun i _ => u.ks.length - (intOf i).toNat)
      case atStart => exact ⟨0, [], Nat.zero_le _, rfl, LL.out⟩
      case round =>
        obtain ⟨m, cs, hm', rfl, hL⟩ := hrel
        have L := Lib.hid hL
        clear hL LL y1 y2 p0 p1 p2 q2
        by_cases hlt : m < u.ks.length
        · obtain ⟨b, o, A', c', rfl, hlt', d0, d1, d2, hk⟩ := L.out.tree.isT.kid m hlt
          have kz := KZ.out _ (List.getElem_mem hlt)
          have ks := HS.out _ (List.getElem_mem hlt)
          have hlp : m < (plainL u.ks).length := by rw [plainL_len]; exact hlt
          have PG := Lib.hid (plainL_get u.ks m hlt)
          have STEP := Lib.hid (fun (w1 : World) => @Fill.step wr w1 _ _ _ _ _ _ L.out.fill hlp (plainL_len u.ks).symm)
          have CEL := Lib.hid (fun (w1 : World) (h : Fill w1 (n + 1) (n + 1) u.ks.length (plainL u.ks) m cs) => h.cells hlt (plainL_len u.ks).symm)
          rw [PG.out] at STEP
          obtain ⟨q, hq⟩ : ∃ q, q = u.ks[m] := ⟨_, rfl⟩
          rw [← hq] at d0 d1 d2 hk kz ks STEP
          clear hq PG
          have ha := alB wr (.cells #[.int .i64 q.k, .int .i64 q.i, .slice A' q.ks.length c'] 24)
          have T' : Ck wr (wr.alloc (.cells #[.int .i64 q.k, .int .i64 q.i, .slice A' q.ks.length c'] 24)).drew (n + 1) (n + 1) n (.int .i64 u.k) (.int .i64 u.i) q A' c' (plainL u.ks) u.ks.length m cs :=
            (show Ck wr (wr.alloc (.cells #[.int .i64 q.k, .int .i64 q.i, .slice A' q.ks.length c'] 24)) (n + 1) (n + 1) n (.int .i64 u.k) (.int .i64 u.i) q A' c' (plainL u.ks) u.ks.length m cs from ⟨L.out.box.keep ha L.out.box.lt, Box3.new _ _ _ _, L.out.fill.keep ha, hk.keep ha ha.size, ha⟩).drew
          clear hk
          have hnn : (m : Int) < (u.ks.length : Int) := by omega
          have hgl : n + 1 < wr.heap.size := (L.out.fill.own.lt (n + 1) rfl).2
          go_wp2_with fail
          go_region_held3 (fun w' => w'.cell? ⟨n, 2, none⟩ = some (.slice (some ⟨n + 1, 0, none⟩) u.ks.length u.ks.length) ∧ (w'.cell? ⟨wr.heap.size, 0, none⟩ = some (.int .i64 q.k) ∧ w'.cell? ⟨wr.heap.size, 1, none⟩ = some (.int .i64 q.i) ∧ w'.cell? ⟨wr.heap.size, 2, none⟩ = some (.slice A' q.ks.length c')))
            (first | exact ⟨T'.box.cells.2.2, T'.kid.cells⟩ | exact ⟨(((T'.box.set_other _ _ (by show n ≠ n + 1; omega)).set_other _ _ (by show n ≠ n + 1; omega)).set_other _ _ (by show n ≠ n + 1; omega)).cells.2.2, (((T'.kid.set_other _ _ (by show wr.heap.size ≠ n + 1; omega)).set_other _ _ (by show wr.heap.size ≠ n + 1; omega)).set_other _ _ (by show wr.heap.size ≠ n + 1; omega)).cells⟩)
            (first
              | (go_at_call 68; refine (IH.out q A' c' _ (by omega) ks (by exact T'.isT)).mono ?_; rintro e w1 ⟨A2, c2, rfl, ho, hb2⟩; have HO := Lib.hid ho; have HBX := Lib.hid (T'.below.trans (hb2.mono T'.below.size)); have HLO := Lib.hid T'.below.size; replace T' := T'.keep hb2; clear hb2 ho; obtain ⟨r0, r1, r2⟩ := CEL.out w1 T'.fill; have s0 := T'.fill.frozen (m * 3); have s1 := T'.fill.frozen (m * 3 + 1); have s2 := T'.fill.frozen (m * 3 + 2)))
          have NF := Lib.hid (STEP.out w1 HBX.out HLO.out HO.out)
          have LK' := Lib.hid (show PL w ((((w1.setCell ⟨n + 1, m * 3, none⟩ (.int .i64 (plainT q).k)).setCell ⟨n + 1, m * 3 + 1, none⟩ (.int .i64 (plainT q).i)).setCell ⟨n + 1, m * 3 + 2, none⟩ (.slice A2 (plainT q).ks.length c2))) n u (some ⟨b, o, none⟩) c1 (m + 1) (cs ++ [(A2, c2)]) from
            ⟨(((L.out.res.keep HBX.out L.out.res.lt).set_other _ _ (by show w.heap.size + 1 ≠ n + 1; omega)).set_other _ _ (by show w.heap.size + 1 ≠ n + 1; omega)).set_other _ _ (by show w.heap.size + 1 ≠ n + 1; omega),
             (((L.out.box.keep HBX.out L.out.box.lt).set_other _ _ (by show n ≠ n + 1; omega)).set_other _ _ (by show n ≠ n + 1; omega)).set_other _ _ (by show n ≠ n + 1; omega),
             NF.out,
             (L.out.tree.keep HBX.out).move (fun k hk hn' => by
               have hne : k ≠ n + 1 := fun e => hn' (.inr (by omega))
               rw [heap_setCell_other _ _ _ _ hne, heap_setCell_other _ _ _ _ hne, heap_setCell_other _ _ _ _ hne]) (by simp),
             (((L.out.bel.trans (HBX.out.mono L.out.bel.size)).setCell (p := ⟨n + 1, m * 3, none⟩) (show w.heap.size ≤ n + 1 by omega) _).setCell (p := ⟨n + 1, m * 3 + 1, none⟩) (show w.heap.size ≤ n + 1 by omega) _).setCell (p := ⟨n + 1, m * 3 + 2, none⟩) (show w.heap.size ≤ n + 1 by omega) _⟩)
          clear T' r0 r1 r2 s0 s1 s2 d0 d1 d2 ha
          go_wp2_with fail
          go_roundw
          case rel => exact ⟨m + 1, _, by omega, by go_num, LK'.out⟩
          case measure => simp [intOf]; omega
        · obtain rfl : m = u.ks.length := by omega
          obtain ⟨e1, e2, e3⟩ := PN.out
          have e4 : (plainT t).ks.length = u.ks.length := by rw [e3, plainL_len]
          have FL := Lib.hid (show Fill wr (n + 1) (n + 1) u.ks.length (plainT t).ks u.ks.length cs by rw [e3]; exact L.out.fill)
          have DONE := Lib.hid (FL.out.done e4.symm)
          have E1 := Lib.hid (And.intro e1 (And.intro e2 e4))
          clear e1 e2 e3 e4
          obtain ⟨x0, x1, x2⟩ := L.out.box.cells
          obtain ⟨y0, y1, y2⟩ := L.out.res.cells
          have f0 := L.out.res.frozen 0
          have f1 := L.out.res.frozen 1
          have f2 := L.out.res.frozen 2
          obtain ⟨q0, q1, q2⟩ := (L.out.res.setall (.int .i64 u.k) (.int .i64 u.i) (.slice (some ⟨n + 1, 0, none⟩) u.ks.length u.ks.length)).cells
          go_wp2_with fail
          refine bodyPost_ret (v := .agg #[.int .i64 u.k, .int .i64 u.i, .slice (some ⟨n + 1, 0, none⟩) u.ks.length u.ks.length]) (by simp [results, Try.results68, go_sem, q0, q1, q2]) rfl (show NewT w (plainT t) _ _ from ⟨some ⟨n + 1, 0, none⟩, u.ks.length, ?_, ?_, ?_⟩)
          · rw [E1.out.1, E1.out.2.1, E1.out.2.2]
          · have hs : SameIn (n + 1) wr.heap.size wr (((wr.setCell ⟨w.heap.size + 1, 0, none⟩ (.int .i64 u.k)).setCell ⟨w.heap.size + 1, 1, none⟩ (.int .i64 u.i)).setCell ⟨w.heap.size + 1, 2, none⟩ (.slice (some ⟨n + 1, 0, none⟩) u.ks.length u.ks.length)) := same_set3 _ _ _ _ _ (by omega)
            have := (DONE.out.same _ hs).lower (lo' := w.heap.size) (by omega)
            simpa using this
          · exact below_set3 L.out.bel _ _ _ (by omega)
end Go.Proofs.Ytjdhmfpkhijkeaa
