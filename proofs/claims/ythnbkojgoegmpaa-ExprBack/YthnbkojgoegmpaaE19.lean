/- build of package expr. -/
import Derived.Test.YthnbkojgoegmpaaE17
import Derived.Test.YthnbkojgoegmpaaE18
namespace Go.Proofs.Ythnbkojgoegmpaa
open Go.RowKit
/-- heads in memory, one behind the other -/
def HdR (w : World) (B : Nat) (A : Option Addr) (hs : List Hd) : Prop :=
  ∀ j (h : j < hs.length), ∃ b o, A = some ⟨b, o, none⟩ ∧ b < B ∧ w.cell? ⟨b, o + j * 3, none⟩ = some (.int .i64 hs[j].k) ∧ w.cell? ⟨b, o + j * 3 + 1, none⟩ = some (.int .i64 hs[j].i) ∧ w.cell? ⟨b, o + j * 3 + 2, none⟩ = some (.int .i64 (hs[j].n : Int))
theorem HdR.keep {w w' : World} {B B' : Nat} {A : Option Addr} {hs : List Hd} (h : HdR w B A hs) (hb : Below B w w') (hB : B ≤ B') : HdR w' B' A hs := fun j hj => by
  obtain ⟨b, o, e, hlt, c0, c1, c2⟩ := h j hj
  exact ⟨b, o, e, by omega, (hb.cell hlt).trans c0, (hb.cell hlt).trans c1, (hb.cell hlt).trans c2⟩
theorem HdR.tail {w : World} {B b o : Nat} {x : Hd} {hs : List Hd} (h : HdR w B (some ⟨b, o, none⟩) (x :: hs)) : HdR w B (some ⟨b, o + 3, none⟩) hs := fun j hj => by
  obtain ⟨b', o', e, hlt, c0, c1, c2⟩ := h (j + 1) (by simp; omega)
  cases e
  refine ⟨b, o + 3, rfl, hlt, ?_, ?_, ?_⟩
  · rw [show o + 3 + j * 3 = o + (j + 1) * 3 by omega]; exact c0
  · rw [show o + 3 + j * 3 = o + (j + 1) * 3 by omega]; exact c1
  · rw [show o + 3 + j * 3 = o + (j + 1) * 3 by omega]; exact c2
theorem HdR.nil {w : World} {B : Nat} (A : Option Addr) : HdR w B A [] := fun j hj => by simp at hj
theorem hdsL_drop (ks : List Tr) (m : Nat) (h : m < ks.length) : hdsL (ks.drop m) = ks[m].hds ++ hdsL (ks.drop (m + 1)) := by rw [List.drop_eq_getElem_cons h, hdsL]
theorem three_blocks (w : World) (o0 o1 o2 : Obj) :
    (((w.alloc o0).alloc o1).alloc o2).heap[w.heap.size]? = some o0 ∧ (((w.alloc o0).alloc o1).alloc o2).heap[w.heap.size + 1]? = some o1 ∧ (((w.alloc o0).alloc o1).alloc o2).heap[w.heap.size + 2]? = some o2 ∧
    Below w.heap.size w (((w.alloc o0).alloc o1).alloc o2) := by
  refine ⟨?_, ?_, ?_, (((Below.refl _ w).alloc (Nat.le_refl _) _).alloc (by simp) _).alloc (by simp; omega) _⟩
  · show (((w.heap.push _).push _).push _)[w.heap.size]? = _
    rw [Array.getElem?_push, if_neg (by simp; omega), Array.getElem?_push, if_neg (by simp), Array.getElem?_push, if_pos rfl]
  · show (((w.heap.push _).push _).push _)[w.heap.size + 1]? = _
    rw [Array.getElem?_push, if_neg (by simp), Array.getElem?_push, if_pos (by simp)]
  · show (((w.heap.push _).push _).push _)[w.heap.size + 2]? = _
    rw [Array.getElem?_push, if_pos (by simp)]
theorem two_keep (w : World) (o0 o1 : Obj) (p : Addr) (h : p.block < w.heap.size) : (((w.alloc o0).alloc o1).drew).cell? p = w.cell? p :=
  (((Below.refl w.heap.size w).alloc (Nat.le_refl _) o0).alloc (by simp) o1).drew.cell h
structure Bk (B : Nat) (wr W : World) (lo g b : Nat) (x y : Value) (R : List Hd) (A : Option Addr) (ks : List Tr) (n m : Nat) (cs : List (Option Addr × Nat)) : Prop where
  box : Box3 W b x y (.slice (some ⟨g, 0, none⟩) n n)
  fill : Fill W lo g n ks m cs
  hds : HdR W B A R
  lb : B ≤ W.heap.size
  below : Below wr.heap.size wr W
theorem Bk.keep {B : Nat} {wr W W' : World} {lo g b : Nat} {x y : Value} {R : List Hd} {A : Option Addr} {ks : List Tr} {n m : Nat} {cs : List (Option Addr × Nat)} (h : Bk B wr W lo g b x y R A ks n m cs) (hb : Below W.heap.size W W') : Bk B wr W' lo g b x y R A ks n m cs :=
  ⟨h.box.keep hb h.box.lt, h.fill.keep hb, h.hds.keep (hb.mono h.lb) (Nat.le_refl _), Nat.le_trans h.lb hb.size, h.below.trans (hb.mono h.below.size)⟩
/-- what build answers -/
def Built (B : Nat) (w : World) (t : Tr) (more : List Hd) (cap : Nat) (e : Ending) (w' : World) : Prop :=
  ∃ A' c' A2 cap2, e = .returned (.tuple #[.agg #[.int .i64 t.k, .int .i64 t.i, .slice A' t.ks.length c'], .slice A2 more.length cap2]) ∧ OwnT w' w.heap.size w'.heap.size t A' c' ∧ HdR w' B A2 more ∧ more.length ≤ cap2 ∧ cap2 ≤ cap ∧ Below w.heap.size w w'
set_option maxRecDepth 100000 in
set_option maxHeartbeats 2000000 in
theorem build_any : ∀ (N : Nat) (t : Tr) (more : List Hd) (A : Option Addr) (n cap B : Nat) (w : World), t.sz ≤ N → n = (t.hds ++ more).length → n ≤ cap → cap ≤ maxLen → t.heads → B ≤ w.heap.size → HdR w B A (t.hds ++ more) →
    Calls Try.prog 55 #[.slice A n cap] w (Built B w t more cap) := by
  intro N
  induction N with
  | zero => intro t more A n cap B w h; have := sz_pos t; omega
  | succ N ih =>
    intro t more A n cap B w hN hn hcap hcap2 hh hB ht
    have IH := Lib.hid ih
    have hH := (heads_eq t).1 hh
    have HL := Lib.hid hH.2
    have hk255 : t.ks.length ≤ 255 := by have := hH.1.2.2.2; omega
    rw [hds_eq, List.cons_append] at hn ht
    have hn1 : n = (hdsL t.ks ++ more).length + 1 := by rw [hn]; rfl
    obtain ⟨b, o, rfl, hltB, c0, c1, c2⟩ := ht 0 (by simp)
    have hlt : b < w.heap.size := by omega
    have TL := Lib.hid ht.tail
    simp only [Nat.zero_mul, Nat.add_zero, List.getElem_cons_zero, Tr.hd] at c0 c1 c2
    obtain ⟨i0, hi, hz0, hz1, hz2⟩ := info_parts infoE
    have HN := Lib.hid hn1
    have hn0 : (0 : Int) < (n : Int) := by omega
    have hn0' : 0 < n := by omega
    have hcc : (1 : Int) ≤ (cap : Int) := by omega
    have hcn : (1 : Int) ≤ (n : Int) := by omega
    have hcq : (n : Int) ≤ (cap : Int) := by omega
    clear ih ht hn hn1 hh hH
    have d0 : ((w.alloc (.cells #[.int .i64 0, .int .i64 0, .slice none 0 0] 24)).drew).cell? ⟨b, o, none⟩ = some (.int .i64 t.k) := (((Below.refl w.heap.size w).alloc (Nat.le_refl _) _).drew.cell hlt).trans c0
    have d1 : ((w.alloc (.cells #[.int .i64 0, .int .i64 0, .slice none 0 0] 24)).drew).cell? ⟨b, o + 1, none⟩ = some (.int .i64 t.i) := (((Below.refl w.heap.size w).alloc (Nat.le_refl _) _).drew.cell hlt).trans c1
    have d2 : ((w.alloc (.cells #[.int .i64 0, .int .i64 0, .slice none 0 0] 24)).drew).cell? ⟨b, o + 2, none⟩ = some (.int .i64 (t.ks.length : Int)) := (((Below.refl w.heap.size w).alloc (Nat.le_refl _) _).drew.cell hlt).trans c2
    have hb1 : b < w.heap.size + 1 := by omega
    by_cases h1 : cap = 1
    · subst h1
      obtain rfl : n = 1 := by omega
      go_enter Try.func55, Try.ntmps55
      go_wp2_with fail
      go_region_held3 (fun w' => w'.cell? ⟨b, o, none⟩ = some (.int .i64 t.k) ∧ w'.cell? ⟨b, o + 1, none⟩ = some (.int .i64 t.i) ∧ w'.cell? ⟨b, o + 2, none⟩ = some (.int .i64 (t.ks.length : Int)))
        (first | exact ⟨d0, d1, d2⟩ | exact ⟨(two_keep _ _ _ _ hlt).trans c0, (two_keep _ _ _ _ hlt).trans c1, (two_keep _ _ _ _ hlt).trans c2⟩) (fail)
      obtain rfl : more = [] := by have := HN.out; simp at this; exact this.2
      have HK0 := Lib.hid (show t.ks.length = 0 by have := HN.out; have := len_le_szL t.ks; rw [List.append_nil, hdsL_len] at *; omega)
      have HKS := Lib.hid (List.eq_nil_of_length_eq_zero HK0.out)
      have HML := Lib.hid (show ([] : List Hd).length = 0 from rfl)
      have HREST := Lib.hid (fun (w' : World) (_ : Below w.heap.size w w') => (HdR.nil (some ⟨b, o, none⟩) : HdR w' B (some ⟨b, o, none⟩) []))
      have h0' : ¬ (0 : Int) < (t.ks.length : Int) := by have := HK0.out; omega
      have S0 := Lib.hid (three_blocks w (.cells #[.int .i64 0, .int .i64 0, .slice none 0 0] 24) (.cells #[.int .i64 t.k, .int .i64 t.i, .int .i64 (t.ks.length : Int)] 82) (.cells #[.int .i64 t.k, .int .i64 t.i, .slice none 0 0] 24))
      go_wp2_with fail
      go_loopw [5, 28] (fun r i wr => r = .slice (some ⟨b, o, none⟩) (0) (0) ∧ i = .int .i64 0 ∧ Box3 wr w.heap.size (.int .i64 0) (.int .i64 0) (.slice none 0 0) ∧ Box3 wr (w.heap.size + 2) (.int .i64 t.k) (.int .i64 t.i) (.slice none 0 0) ∧ Below w.heap.size w wr) (fun _ _ _ => 0)
      case atStart => exact ⟨rfl, rfl, S0.out.1, S0.out.2.2.1, S0.out.2.2.2.drew⟩
      case round =>
        obtain ⟨rfl, rfl, hb1, hb2, hbr⟩ := hrel
        obtain ⟨x0, x1, x2⟩ := hb2.cells
        obtain ⟨y0, y1, y2⟩ := hb1.cells
        have f0 := hb1.frozen 0
        have f1 := hb1.frozen 1
        have f2 := hb1.frozen 2
        have HB1 := Lib.hid hb1
        clear hb1 hb2 S0 d0 d1 d2 c0 c1 c2
        go_wp2_with fail
        refine bodyPost_ret (v := .tuple #[.agg #[.int .i64 t.k, .int .i64 t.i, .slice none 0 0], .slice (some ⟨b, o, none⟩) (0) (0)]) (by simp [results, Try.results55, go_sem, y0, y1, y2]) rfl ⟨none, 0, (some ⟨b, o, none⟩), 0, by rw [HK0.out, HML.out], ?_, ?_, ?_, ?_, ?_⟩
        · exact ownT_leaf _ _ _ (by have := hbr.size; simp; omega) t HKS.out
        · exact HREST.out _ (below_set3 hbr _ _ _ (Nat.le_refl _))
        · have := HML.out; omega
        · omega
        · exact below_set3 hbr _ _ _ (Nat.le_refl _)
    · have h1a : ¬ (cap : Int) = 1 := by omega
      have h1b : ¬ cap - 1 = 0 := by omega
      go_enter Try.func55, Try.ntmps55
      go_wp2_with fail
      go_region_held3 (fun w' => w'.cell? ⟨b, o, none⟩ = some (.int .i64 t.k) ∧ w'.cell? ⟨b, o + 1, none⟩ = some (.int .i64 t.i) ∧ w'.cell? ⟨b, o + 2, none⟩ = some (.int .i64 (t.ks.length : Int)))
        (first | exact ⟨d0, d1, d2⟩ | exact ⟨(two_keep _ _ _ _ hlt).trans c0, (two_keep _ _ _ _ hlt).trans c1, (two_keep _ _ _ _ hlt).trans c2⟩) (fail)
      have HREST0 := Lib.hid (fun (w' : World) (h : Below w.heap.size w w') => (TL.out.keep (h.mono hB) (Nat.le_refl _) : HdR w' B (some ⟨b, o + 3, none⟩) (hdsL t.ks ++ more)))
      by_cases h0 : t.ks.length = 0
      · have HK0 := Lib.hid h0
        have HKS := Lib.hid (List.eq_nil_of_length_eq_zero HK0.out)
        have HML := Lib.hid (show more.length = n - 1 by have := HN.out; rw [HKS.out] at this; simp [hdsL] at this; omega)
        have HREST := Lib.hid (fun (w' : World) (h : Below w.heap.size w w') => (by have := HREST0.out w' h; rw [HKS.out] at this; simpa [hdsL] using this : HdR w' B (some ⟨b, o + 3, none⟩) more))
        have h0' : ¬ (0 : Int) < (t.ks.length : Int) := by omega
        clear h0
        have S0 := Lib.hid (three_blocks w (.cells #[.int .i64 0, .int .i64 0, .slice none 0 0] 24) (.cells #[.int .i64 t.k, .int .i64 t.i, .int .i64 (t.ks.length : Int)] 82) (.cells #[.int .i64 t.k, .int .i64 t.i, .slice none 0 0] 24))
        go_wp2_with fail
        go_loopw [5, 28] (fun r i wr => r = .slice (some ⟨b, o + 3, none⟩) (n - 1) (cap - 1) ∧ i = .int .i64 0 ∧ Box3 wr w.heap.size (.int .i64 0) (.int .i64 0) (.slice none 0 0) ∧ Box3 wr (w.heap.size + 2) (.int .i64 t.k) (.int .i64 t.i) (.slice none 0 0) ∧ Below w.heap.size w wr) (fun _ _ _ => 0)
        case atStart => exact ⟨rfl, rfl, S0.out.1, S0.out.2.2.1, S0.out.2.2.2.drew⟩
        case round =>
          obtain ⟨rfl, rfl, hb1, hb2, hbr⟩ := hrel
          obtain ⟨x0, x1, x2⟩ := hb2.cells
          obtain ⟨y0, y1, y2⟩ := hb1.cells
          have f0 := hb1.frozen 0
          have f1 := hb1.frozen 1
          have f2 := hb1.frozen 2
          have HB1 := Lib.hid hb1
          clear hb1 hb2 S0 d0 d1 d2 c0 c1 c2
          go_wp2_with fail
          refine bodyPost_ret (v := .tuple #[.agg #[.int .i64 t.k, .int .i64 t.i, .slice none 0 0], .slice (some ⟨b, o + 3, none⟩) (n - 1) (cap - 1)]) (by simp [results, Try.results55, go_sem, y0, y1, y2]) rfl ⟨none, 0, (some ⟨b, o + 3, none⟩), cap - 1, by rw [HK0.out, HML.out], ?_, ?_, ?_, ?_, ?_⟩
          · exact ownT_leaf _ _ _ (by have := hbr.size; simp; omega) t HKS.out
          · exact HREST.out _ (below_set3 hbr _ _ _ (Nat.le_refl _))
          · have := HML.out; omega
          · omega
          · exact below_set3 hbr _ _ _ (Nat.le_refl _)
      · have h0' : (0 : Int) < (t.ks.length : Int) := by omega
        have KZ := Lib.hid (kid_sz t)
        have SZL := Lib.hid (headsL_iff t.ks)
        obtain ⟨e0, _, e2, hB0⟩ := three_blocks w (.cells #[.int .i64 0, .int .i64 0, .slice none 0 0] 24) (.cells #[.int .i64 t.k, .int .i64 t.i, .int .i64 (t.ks.length : Int)] 82) (.cells #[.int .i64 t.k, .int .i64 t.i, .slice none 0 0] 24)
        have E0 := Lib.hid e0
        have E2 := Lib.hid e2
        have HB0 := Lib.hid hB0
        clear e0 e2 hB0 d0 d1 d2 c0 c1 c2
        go_wp2_with (at_make; refine wpList_make_full _ rfl _ _ 22 rfl (w.heap.size + 3) 24 i0 _ 3 Try.underlying22 hi hz0 hz1 _ _ _ _ t.ks.length rfl rfl rfl rfl ?b2 ?b3 ?b4 ?_)
        case b2 => rw [hz2]; omega
        case b3 => unfold maxLen; omega
        case b4 => simp
        intro w3 own3 grow3
        have b3 := below_grown grow3
        have hszd : (((w.alloc (.cells #[.int .i64 0, .int .i64 0, .slice none 0 0] 24)).alloc (.cells #[.int .i64 t.k, .int .i64 t.i, .int .i64 (t.ks.length : Int)] 82)).alloc (.cells #[.int .i64 t.k, .int .i64 t.i, .slice none 0 0] 24)).drew.heap.size = w.heap.size + 3 := by simp
        rw [hszd] at b3
        have hs3 := b3.size
        rw [hszd] at hs3
        have F0 : Fill w3 (w.heap.size + 3) (w.heap.size + 3) t.ks.length t.ks 0 [] := Fill.start own3
        have x1 : Box3 w3 w.heap.size (.int .i64 0) (.int .i64 0) (.slice none 0 0) := (b3.block w.heap.size (by omega)).trans E0.out
        have x2 : Box3 w3 (w.heap.size + 2) (.int .i64 t.k) (.int .i64 t.i) (.slice none 0 0) := (b3.block (w.heap.size + 2) (by omega)).trans E2.out
        have hB3 : Below w.heap.size w w3 := HB0.out.drew.trans (b3.mono (by omega))
        have y1 := (x2.cells).2.2
        have y2 := x2.frozen 2
        have G0 : Fill (w3.setCell ⟨w.heap.size + 2, 2, none⟩ (.slice (some ⟨w.heap.size + 3, 0, none⟩) t.ks.length t.ks.length)) (w.heap.size + 3) (w.heap.size + 3) t.ks.length t.ks 0 [] := by
          have o := ownsRow_same (hi := w3.heap.size) (w' := w3.setCell ⟨w.heap.size + 2, 2, none⟩ (.slice (some ⟨w.heap.size + 3, 0, none⟩) t.ks.length t.ks.length)) F0.own (fun k k1 _ => heap_setCell_other _ _ _ _ (by show k ≠ w.heap.size + 2; omega)) (fun k e => (F0.own.lt k e).2)
          have : w.heap.size + 3 < w3.heap.size := (F0.own.lt (w.heap.size + 3) rfl).2
          exact ⟨rfl, o, by simp [OwnL]; omega⟩
        have hBB := hB3.setCell (p := ⟨w.heap.size + 2, 2, none⟩) (show w.heap.size ≤ w.heap.size + 2 by omega) (.slice (some ⟨w.heap.size + 3, 0, none⟩) t.ks.length t.ks.length)
        have S0 := Lib.hid (And.intro (x1.set_other ⟨w.heap.size + 2, 2, none⟩ (.slice (some ⟨w.heap.size + 3, 0, none⟩) t.ks.length t.ks.length) (by show w.heap.size ≠ w.heap.size + 2; omega)) (And.intro (x2.set2 (.slice (some ⟨w.heap.size + 3, 0, none⟩) t.ks.length t.ks.length)) (And.intro G0 (And.intro hBB (HREST0.out _ hBB)))))
        have LN0 := Lib.hid (show n - 1 = (hdsL (t.ks.drop 0) ++ more).length by have := HN.out; rw [List.drop_zero]; omega)
        clear own3 grow3 b3 F0 x1 x2 hB3 G0 hBB hszd hs3 E0 E2 HB0
        go_wp2_with fail
        go_loopw [5, 28] (fun r i wr => ∃ (m : Nat) (cs : List (Option Addr × Nat)) (A2 : Option Addr) (L cap2 : Nat), m ≤ t.ks.length ∧ r = .slice A2 L cap2 ∧ i = .int .i64 m ∧ L = (hdsL (t.ks.drop m) ++ more).length ∧ L ≤ cap2 ∧ cap2 ≤ cap ∧ HdR wr B A2 (hdsL (t.ks.drop m) ++ more) ∧ Box3 wr w.heap.size (.int .i64 0) (.int .i64 0) (.slice none 0 0) ∧ Box3 wr (w.heap.size + 2) (.int .i64 t.k) (.int .i64 t.i) (.slice (some ⟨w.heap.size + 3, 0, none⟩) t.ks.length t.ks.length) ∧ Fill wr (w.heap.size + 3) (w.heap.size + 3) t.ks.length t.ks m cs ∧ Below w.heap.size w wr) (fun _ i _ => t.ks.length - (intOf i).toNat)
        case atStart => exact ⟨0, [], some ⟨b, o + 3, none⟩, n - 1, cap - 1, Nat.zero_le _, rfl, rfl, LN0.out, by omega, by omega, by rw [List.drop_zero]; exact S0.out.2.2.2.2, S0.out.1, S0.out.2.1, S0.out.2.2.1, S0.out.2.2.2.1⟩
        case round =>
          obtain ⟨m, cs, A2, L, cap2, hm', rfl, rfl, hL, hL1, hL2, hR, hb1', hb2', hF, hbr⟩ := hrel
          have HB1 := Lib.hid hb1'
          have HB2 := Lib.hid hb2'
          have HF := Lib.hid hF
          have HLL := Lib.hid hL
          have HRR := Lib.hid hR
          clear hb1' hb2' hF y1 y2 S0 hL hR LN0
          by_cases hltm : m < t.ks.length
          · have kz := KZ.out m hltm
            have STEP := Lib.hid (fun (w1 : World) => @Fill.step wr w1 _ _ _ _ _ _ HF.out hltm rfl)
            have HD := Lib.hid (hdsL_drop t.ks m hltm)
            have KH := Lib.hid ((SZL.out.1 HL.out) _ (List.getElem_mem hltm))
            obtain ⟨q, hq⟩ : ∃ q, q = t.ks[m] := ⟨_, rfl⟩
            rw [← hq] at kz STEP HD KH
            clear hq
            have T' : Bk B wr wr.drew (w.heap.size + 3) (w.heap.size + 3) (w.heap.size + 2) (.int .i64 t.k) (.int .i64 t.i) (q.hds ++ (hdsL (t.ks.drop (m + 1)) ++ more)) A2 t.ks t.ks.length m cs :=
              Bk.keep (W := wr) ⟨HB2.out, HF.out, by rw [← List.append_assoc, ← HD.out]; exact HRR.out, Nat.le_trans hB hbr.size, Below.refl _ _⟩ (Below.refl _ _).drew
            have HL3 := Lib.hid (show L = (q.hds ++ (hdsL (t.ks.drop (m + 1)) ++ more)).length by rw [HLL.out, HD.out, List.append_assoc])
            have hnn : (m : Int) < (t.ks.length : Int) := by omega
            have hgl : w.heap.size + 3 < wr.heap.size := (HF.out.own.lt (w.heap.size + 3) rfl).2
            go_wp2_with fail
            go_region_held3 (fun w' => w'.cell? ⟨w.heap.size + 2, 2, none⟩ = some (.slice (some ⟨w.heap.size + 3, 0, none⟩) t.ks.length t.ks.length))
              (first | exact T'.box.cells.2.2 | exact (((T'.box.set_other _ _ (by show w.heap.size + 2 ≠ w.heap.size + 3; omega)).set_other _ _ (by show w.heap.size + 2 ≠ w.heap.size + 3; omega)).set_other _ _ (by show w.heap.size + 2 ≠ w.heap.size + 3; omega)).cells.2.2)
              (first
                | (go_at_call 55; refine (IH.out q (hdsL (t.ks.drop (m + 1)) ++ more) A2 L cap2 B _ (by omega) HL3.out hL1 (by omega) KH.out (by exact T'.lb) (by exact T'.hds)).mono ?_; rintro e w1 ⟨A4, c4, A5, cap5, rfl, ho, hr5, hl5, hc5, hb2⟩; have HO := Lib.hid ho; have HBX := Lib.hid (T'.below.trans (hb2.mono T'.below.size)); have HLO := Lib.hid T'.below.size; have HR5 := Lib.hid hr5; have HL5 := Lib.hid hl5; have HC5 := Lib.hid hc5; replace T' := T'.keep hb2; clear hb2 ho hr5 hl5 hc5; obtain ⟨r0, r1, r2⟩ := T'.fill.cells (by omega) rfl; have s0 := T'.fill.frozen (m * 3); have s1 := T'.fill.frozen (m * 3 + 1); have s2 := T'.fill.frozen (m * 3 + 2)))
            have NF := Lib.hid (STEP.out w1 HBX.out HLO.out HO.out)
            have BW := Lib.hid ((((Below.refl (w.heap.size + 3) w1).setCell (p := ⟨w.heap.size + 3, m * 3, none⟩) (Nat.le_refl _) (.int .i64 q.k)).setCell (p := ⟨w.heap.size + 3, m * 3 + 1, none⟩) (Nat.le_refl _) (.int .i64 q.i)).setCell (p := ⟨w.heap.size + 3, m * 3 + 2, none⟩) (Nat.le_refl _) (.slice A4 q.ks.length c4))
            have NB1 := Lib.hid ((HB1.out.keep HBX.out HB1.out.lt).keep BW.out (by omega))
            have NB2 := Lib.hid ((HB2.out.keep HBX.out HB2.out.lt).keep BW.out (by omega))
            have NBB := Lib.hid ((hbr.trans (HBX.out.mono hbr.size)).trans (BW.out.mono (by omega)))
            have NR := Lib.hid (HR5.out.keep (BW.out.mono (by omega)) (Nat.le_refl _))
            have L5 := HL5.out
            have C5 := HC5.out
            rw [List.length_append] at L5
            clear T' r0 r1 r2 s0 s1 s2
            go_wp2_with fail
            go_roundw
            case rel => exact ⟨m + 1, _, A5, _, cap5, by omega, rfl, by go_num, by rw [List.length_append], L5, by omega, NR.out, NB1.out, NB2.out, NF.out, NBB.out⟩
            case measure => simp [intOf]; omega
          · obtain rfl : m = t.ks.length := by omega
            have DONE := Lib.hid (HF.out.done rfl)
            have HM := Lib.hid (show L = more.length by rw [HLL.out, List.drop_length]; rfl)
            have HRM := Lib.hid (show HdR wr B A2 more by have := HRR.out; rw [List.drop_length] at this; exact this)
            obtain ⟨x0, x1, x2⟩ := HB2.out.cells
            obtain ⟨y0, y1, y2⟩ := HB1.out.cells
            have f0 := HB1.out.frozen 0
            have f1 := HB1.out.frozen 1
            have f2 := HB1.out.frozen 2
            go_wp2_with fail
            refine bodyPost_ret (v := .tuple #[.agg #[.int .i64 t.k, .int .i64 t.i, .slice (some ⟨w.heap.size + 3, 0, none⟩) t.ks.length t.ks.length], .slice A2 L cap2]) (by simp [results, Try.results55, go_sem, y0, y1, y2]) rfl ⟨_, _, A2, cap2, by rw [HM.out], ?_, ?_, ?_, hL2, ?_⟩
            · have hs : SameIn (w.heap.size + 3) wr.heap.size wr (((wr.setCell ⟨w.heap.size, 0, none⟩ (.int .i64 t.k)).setCell ⟨w.heap.size, 1, none⟩ (.int .i64 t.i)).setCell ⟨w.heap.size, 2, none⟩ (.slice (some ⟨w.heap.size + 3, 0, none⟩) t.ks.length t.ks.length)) := same_set3 _ _ _ _ _ (by omega)
              have := (DONE.out.same _ hs).lower (lo' := w.heap.size) (by omega)
              simpa using this
            · exact HRM.out.keep (below_set3 (Below.refl B wr) _ _ _ hB) (Nat.le_refl _)
            · rw [← HM.out]; exact hL1
            · exact below_set3 hbr _ _ _ (Nat.le_refl _)
end Go.Proofs.Ythnbkojgoegmpaa
