/- Each, Put of package subst. -/
import Derived.Test.YtmmdhlemkcddmaaS4
namespace Go.Proofs.Ytmmdhlemkcddmaa
open Go.RowKit
set_option linter.unusedVariables false
set_option linter.unusedSimpArgs false
/-- what Each answers -/
def eachR (a : Tr) (l : List (Int × Tr)) : Tr × Nat := if eachN a l = 0 then (putE l a 0, 0) else (zeroT, eachN a l)
theorem eachR_fault {a : Tr} {l : List (Int × Tr)} (h : faultE a l ≠ 0) : eachR a l = (zeroT, faultE a l) := by
  have e : eachN a l = faultE a l := by unfold eachN; rw [if_pos h]
  unfold eachR
  rw [e, if_neg h]
theorem eachR_cap {a : Tr} {l : List (Int × Tr)} (h : faultE a l = 0) (hc : capE a l = false) : eachR a l = (zeroT, 50) := by
  have e : eachN a l = 50 := by unfold eachN; rw [if_neg (by simp [h]), if_pos hc]
  unfold eachR
  rw [e]
  rfl
theorem eachR_ok {a : Tr} {l : List (Int × Tr)} (h : faultE a l = 0) (hc : capE a l = true) : eachR a l = limR (putE l a 0) := by
  have e : eachN a l = rightN (putE l a 0) := by unfold eachN; rw [if_neg (by simp [h]), if_neg (by simp [hc])]
  unfold eachR limR
  rw [e]
theorem ffB_ok {x : Int} {t a : Tr} (h0 : 0 ≤ x) (h1 : x ≤ 63) (ht : rightN t = 0) (ha : rightN a = 0) (hk : termB t.k = true) : askN x t a = 0 ∧ ffB x t a = decide (catT (varsT t) x a = 0) := by
  have f1 : firstN t a = 0 := by unfold firstN; rw [if_neg (by simp [ht]), ha]
  have h : askN x t a = 0 := by unfold askN wantTN; rw [if_pos ⟨h0, h1⟩, if_pos f1, if_pos ht, if_pos hk]
  refine ⟨h, ?_⟩
  unfold ffB catV
  rw [if_pos h, decide_eq_true h]
  rfl
theorem capE_drop {a : Tr} {l : List (Int × Tr)} {m : Nat} (h : m < l.length) : capE a (l.drop m) = (decide (catT (varsT l[m].2) l[m].1 a = 0) && capE a (l.drop (m + 1))) := by
  rw [List.drop_eq_getElem_cons h]
  unfold capE
  rw [List.all_cons]
  rfl
/-- an answer is handed on through a box -/
theorem ans_pass {w wr : World} {x : Tr × Nat} {A : Option Addr} {c lo b : Nat} (hbr : Below w.heap.size w wr) (ho : OwnT wr lo wr.heap.size x.1 A c) (hb : w.heap.size ≤ b) (hlo : b < lo) :
    AnsPost w x (.returned (.tuple #[.agg #[.int .i64 x.1.k, .int .i64 x.1.i, .slice A x.1.ks.length c], .int .i64 ((x.2 : Nat) : Int)])) (((wr.setCell ⟨b, 0, none⟩ (.int .i64 x.1.k)).setCell ⟨b, 1, none⟩ (.int .i64 x.1.i)).setCell ⟨b, 2, none⟩ (.slice A x.1.ks.length c)) := by
  refine ⟨below_set3 hbr _ _ _ hb, A, c, ?_, rfl⟩
  have hs : SameIn lo wr.heap.size wr (((wr.setCell ⟨b, 0, none⟩ (.int .i64 x.1.k)).setCell ⟨b, 1, none⟩ (.int .i64 x.1.i)).setCell ⟨b, 2, none⟩ (.slice A x.1.ks.length c)) := same_set3 _ _ _ _ _ hlo
  have := (OwnT.same _ hs ho).lower (lo' := w.heap.size) (by omega)
  simpa using this
/-- what Each holds -/
structure EK (w W : World) (a : Tr) (A : Option Addr) (c : Nat) (l : List (Int × Tr)) (Al : Option Addr) (cl : Nat) : Prop where
  ab : Box3 W w.heap.size (.int .i64 a.k) (.int .i64 a.i) (.slice A a.ks.length c)
  rb : Box3 W (w.heap.size + 1) (.int .i64 0) (.int .i64 0) (.slice none 0 0)
  tree : IsT W W.heap.size a A c
  pairs : IsP W W.heap.size l Al cl
  below : Below w.heap.size w W
theorem EK.keep {w W W' : World} {a : Tr} {A : Option Addr} {c : Nat} {l : List (Int × Tr)} {Al : Option Addr} {cl : Nat} (h : EK w W a A c l Al cl) (hb : Below W.heap.size W W') : EK w W' a A c l Al cl :=
  ⟨h.ab.keep hb h.ab.lt, h.rb.keep hb h.rb.lt, h.tree.keep hb hb.size, h.pairs.up hb, h.below.trans (hb.mono h.below.size)⟩
set_option maxHeartbeats 4000000 in
set_option maxRecDepth 100000 in
theorem each_any (a : Tr) (A : Option Addr) (c : Nat) (l : List (Int × Tr)) (Al : Option Addr) (cl : Nat) (w : World) (ha : IsT w w.heap.size a A c) (hp : IsP w w.heap.size l Al cl) :
    Calls Try.prog 46 #[.agg #[.int .i64 a.k, .int .i64 a.i, .slice A a.ks.length c], .slice Al l.length cl] w (AnsPost w (eachR a l)) := by
  obtain ⟨e0, e1, hb0⟩ := two_boxes0 w (.int .i64 a.k) (.int .i64 a.i) (.slice A a.ks.length c) (.int .i64 0) (.int .i64 0) (.slice none 0 0)
  have E0 := Lib.hid e0
  have E1 := Lib.hid e1
  have HB0 := Lib.hid hb0
  have P0 := Lib.hid (hp.up hb0)
  have T0 := Lib.hid (ha.keep hb0 hb0.size)
  have hcap := hp.cap
  have hle := hp.le
  obtain ⟨y0, y1, y2⟩ := e0.cells
  clear e0 e1 hb0 hp ha
  go_enter Try.func46, Try.ntmps46
  go_wp2_with fail
  refine (faultOf_any a A c l Al cl _ (by exact T0.out) (by exact P0.out)).mono ?_
  rintro e w1 ⟨rfl, hb1⟩
  have X0 := Lib.hid (E0.out.keep hb1 E0.out.lt)
  have X1 := Lib.hid (E1.out.keep hb1 E1.out.lt)
  have W1 := Lib.hid (HB0.out.trans (hb1.mono HB0.out.size))
  have P1 := Lib.hid (P0.out.up hb1)
  have T1 := Lib.hid (T0.out.keep hb1 hb1.size)
  have hs1 : w.heap.size + 1 < w1.heap.size := X1.out.lt
  clear y0 y1 y2 hb1 E0 E1 HB0 P0 T0
  by_cases h0 : faultE a l = 0
  · obtain ⟨q1, q2, q3, q4⟩ := faultE_zero h0
    have HR := Lib.hid q2
    have HL := Lib.hid q3
    have HT := Lib.hid q4
    have HX := Lib.hid (argE_mem q1)
    have F0 := Lib.hid h0
    have h1 : ((faultE a l : Int) != 0) = false := by simp [h0]
    clear h0 q1 q2 q3 q4
    go_wp2_with fail
    have K1 := Lib.hid (EK.mk X0.out X1.out T1.out P1.out W1.out)
    go_loopw [20] (fun i wr => ∃ m : Nat, m ≤ l.length ∧ i = .int .i64 m ∧ capE a l = capE a (l.drop m) ∧ EK w wr a A c l Al cl) (fun i _ => l.length - (intOf i).toNat)
    case atStart => exact ⟨0, Nat.zero_le _, rfl, by rw [List.drop_zero], K1.out⟩
    case round =>
      obtain ⟨m, hm', rfl, hA, hK⟩ := hrel
      have AE := Lib.hid hA
      have KR := Lib.hid hK
      clear hA hK X0 X1 W1 P1 T1 K1
      by_cases hlt : m < l.length
      · have CD := Lib.hid (AE.out.trans (capE_drop hlt))
        have FF := Lib.hid (ffB_ok (HX.out _ (List.getElem_mem hlt)).1 (HX.out _ (List.getElem_mem hlt)).2 (HL.out _ (List.getElem_mem hlt)) HR.out (HT.out _ (List.getElem_mem hlt)))
        obtain ⟨b, o, A', c', rfl, hltb, p0, p1, p2, p3, ht⟩ := KR.out.pairs.at_ m hlt
        obtain ⟨p, hp⟩ : ∃ p, p = l[m] := ⟨_, rfl⟩
        rw [← hp] at p0 p1 p2 p3 ht CD FF
        have ha := below_alloc wr (.cells #[.int .i64 p.1, .int .i64 p.2.k, .int .i64 p.2.i, .slice A' p.2.ks.length c'] 70)
        have K2 := Lib.hid (KR.out.keep ha)
        have TT := Lib.hid (ht.keep ha ha.size)
        obtain ⟨q0, q1, q2, q3⟩ := box4_new wr (.int .i64 p.1) (.int .i64 p.2.k) (.int .i64 p.2.i) (.slice A' p.2.ks.length c') 70
        obtain ⟨y0, y1, y2⟩ := K2.out.ab.cells
        clear hp ht ha AE
        go_wp2_with fail
        refine (freeFor_any p.2 a p.1 A' A c' c _ (by exact TT.out) (by exact K2.out.tree)).mono ?_
        rintro e w2 ⟨rfl, hb2⟩
        rw [FF.out.1, FF.out.2]
        have K3 := Lib.hid (K2.out.keep hb2)
        clear hb2 y0 y1 y2 q0 q1 q2 q3
        cases hd : decide (catT (varsT p.2) p.1 a = 0) with
        | true =>
          rw [hd, Bool.true_and] at CD
          go_wp2_with fail
          go_roundw
          case rel => exact ⟨m + 1, by omega, by go_num, CD.out, K3.out⟩
          case measure => simp [intOf]; omega
        | false =>
          rw [hd, Bool.false_and] at CD
          have F := Lib.hid (eachR_cap F0.out CD.out)
          obtain ⟨z0, z1, z2⟩ := K3.out.rb.cells
          have f0 := K3.out.rb.frozen 0
          have f1 := K3.out.rb.frozen 1
          have f2 := K3.out.rb.frozen 2
          go_wp2_with fail
          refine bodyPost_ret (v := .tuple #[.agg #[.int .i64 0, .int .i64 0, .slice none 0 0], .int .i64 50]) (by simp [results, Try.results46, go_sem, z0, z1, z2]) rfl ?_
          exact ans_zero F.out K3.out.below (by omega)
      · obtain rfl : m = l.length := by omega
        have CT := Lib.hid (show capE a l = true by rw [AE.out, List.drop_length]; rfl)
        have F := Lib.hid (eachR_ok F0.out CT.out)
        obtain ⟨y0, y1, y2⟩ := KR.out.ab.cells
        have hrl := KR.out.rb.lt
        go_wp2_with fail
        refine (repl_any a A c l Al cl HL.out HT.out HR.out _ (by exact KR.out.tree) (by exact KR.out.pairs)).mono ?_
        rintro e w2 ⟨hb2, A2, c2, ho, rfl⟩
        rw [← F.out] at ho ⊢
        have K3 := Lib.hid (KR.out.keep hb2)
        have HO := Lib.hid ho
        obtain ⟨z0, z1, z2⟩ := K3.out.rb.cells
        have f0 := K3.out.rb.frozen 0
        have f1 := K3.out.rb.frozen 1
        have f2 := K3.out.rb.frozen 2
        clear hb2 ho y0 y1 y2
        go_wp2_with fail
        refine bodyPost_ret (v := .tuple #[.agg #[.int .i64 (eachR a l).1.k, .int .i64 (eachR a l).1.i, .slice A2 (eachR a l).1.ks.length c2], .int .i64 ((eachR a l).2 : Int)]) (by simp [results, Try.results46, go_sem, z0, z1, z2]) rfl ?_
        exact ans_pass K3.out.below HO.out (by omega) (by omega)
  · have F := Lib.hid (eachR_fault h0)
    have h1 : ((faultE a l : Int) != 0) = true := by rw [bne_iff_ne]; omega
    obtain ⟨z0, z1, z2⟩ := X1.out.cells
    have f0 := X1.out.frozen 0
    have f1 := X1.out.frozen 1
    have f2 := X1.out.frozen 2
    clear h0
    go_wp2_with fail
    refine bodyPost_ret (v := .tuple #[.agg #[.int .i64 0, .int .i64 0, .slice none 0 0], .int .i64 (faultE a l : Int)]) (by simp [results, Try.results46, go_sem, z0, z1, z2]) rfl ?_
    exact ans_zero F.out W1.out (by omega)
/-- a row of one pair -/
theorem IsP.one {w : World} {x : Int} {t : Tr} {A : Option Addr} {c : Nat} (ht : IsT w w.heap.size t A c) : IsP (w.alloc (.cells #[.int .i64 x, .int .i64 t.k, .int .i64 t.i, .slice A t.ks.length c] 70)) (w.heap.size + 1) [(x, t)] (some ⟨w.heap.size, 0, none⟩) 1 := by
  obtain ⟨q0, q1, q2, q3⟩ := box4_new w (.int .i64 x) (.int .i64 t.k) (.int .i64 t.i) (.slice A t.ks.length c) 70
  refine ⟨Nat.le_refl _, by show 1 * 48 ≤ _; omega, fun m hm => ?_⟩
  obtain rfl : m = 0 := by simpa using hm
  exact ⟨w.heap.size, 0, A, c, rfl, Nat.lt_succ_self _, by simp, by simp, by simp, by simp, ht.keep (below_alloc w _) (Nat.le_succ _)⟩
set_option maxHeartbeats 4000000 in
set_option maxRecDepth 100000 in
theorem sput_any (a : Tr) (A : Option Addr) (c : Nat) (x : Int) (t : Tr) (A' : Option Addr) (c' : Nat) (w : World) (ha : IsT w w.heap.size a A c) (ht : IsT w w.heap.size t A' c') :
    Calls Try.prog 17 #[.agg #[.int .i64 a.k, .int .i64 a.i, .slice A a.ks.length c], .int .i64 x, .agg #[.int .i64 t.k, .int .i64 t.i, .slice A' t.ks.length c']] w (AnsPost w (eachR a [(x, t)])) := by
  obtain ⟨e0, e1, e2, hb0⟩ := three_boxes w (.int .i64 a.k) (.int .i64 a.i) (.slice A a.ks.length c) (.int .i64 t.k) (.int .i64 t.i) (.slice A' t.ks.length c') (.int .i64 0) (.int .i64 0) (.slice none 0 0)
  have TA := Lib.hid (ha.keep hb0 hb0.size)
  have TT := Lib.hid (ht.keep hb0 hb0.size)
  have E2 := Lib.hid e2
  have HB0 := Lib.hid hb0
  obtain ⟨y0, y1, y2⟩ := e0.cells
  obtain ⟨t0, t1, t2⟩ := e1.cells
  clear e0 e1 e2 hb0 ha ht
  have PP := Lib.hid (IsP.one (x := x) TT.out)
  have TA4 := Lib.hid (fun o => TA.out.keep (below_alloc _ o) (below_alloc _ o).size)
  have R4 := Lib.hid (fun o => E2.out.keep (below_alloc _ o) E2.out.lt)
  have B4 := Lib.hid (fun o => HB0.out.trans ((below_alloc _ o).mono HB0.out.size))
  go_enter Try.func17, Try.ntmps17
  go_wp2_with fail
  refine (each_any a A c [(x, t)] _ 1 _ (by exact TA4.out _) (by simpa using PP.out)).mono ?_
  rintro e w2 ⟨hb2, A2, c2, ho, rfl⟩
  have hs2 := hb2.size
  simp only [World.size_alloc] at hs2 ho
  have R5 := Lib.hid ((R4.out _).keep hb2 (R4.out _).lt)
  have B5 := Lib.hid ((B4.out _).trans (hb2.mono (by simp; omega)))
  have HO := Lib.hid ho
  obtain ⟨z0, z1, z2⟩ := R5.out.cells
  have f0 := R5.out.frozen 0
  have f1 := R5.out.frozen 1
  have f2 := R5.out.frozen 2
  clear hb2 ho y0 y1 y2 t0 t1 t2
  go_wp2_with fail
  refine bodyPost_ret (v := .tuple #[.agg #[.int .i64 (eachR a [(x, t)]).1.k, .int .i64 (eachR a [(x, t)]).1.i, .slice A2 (eachR a [(x, t)]).1.ks.length c2], .int .i64 ((eachR a [(x, t)]).2 : Int)]) (by simp [results, Try.results17, go_sem, z0, z1, z2]) rfl ?_
  exact ans_pass B5.out HO.out (by omega) (by omega)
end Go.Proofs.Ytmmdhlemkcddmaa
