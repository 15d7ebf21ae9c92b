/- distinct of layer 6's laws. -/
import Derived.Test.YtfdggmmibgbfnaaI20
namespace Go.Proofs.Ytfdggmmibgbfnaa
open Go.RowKit
set_option linter.unusedVariables false
set_option linter.unusedSimpArgs false
theorem IsEs.isT {w0 : World} {B : Nat} {wr : World} {lo : Nat} {ts : List Tr} {A : Option Addr} {c : Nat} {cs : List (Option Addr × Nat)} (h : IsEs w0 B wr lo ts A c cs) (hb : Below B w0 wr) (hB : B ≤ wr.heap.size) (hc : ts.length ≤ 100000) : IsT wr wr.heap.size (.node 0 0 ts) A c := by
  have hl := h.len
  refine IsT.mk ?_ (by show Cap ts.length; unfold Cap; omega) (fun m hm => ?_)
  · show ts.length ≤ c
    rcases h.own.2 with ⟨e, h0⟩ | ⟨g, cap, cur, e, _, _, hc', _⟩
    · omega
    · cases e; exact hc'
  · have hm' : m < ts.length := hm
    show KidAt wr wr.heap.size A m ts[m]
    have own := h.own
    obtain ⟨g, cap, hv, hg1, hg2⟩ := own.form (by omega)
    cases hv
    obtain ⟨r0, r1, r2⟩ := rowC_get ts cs m hm' hl
    refine ⟨g, 0, (cs[m]'(by omega)).1, (cs[m]'(by omega)).2, rfl, hg2, ?_, ?_, ?_, IsT.keep hb hB _ (h.tree m hm')⟩
    · rw [Nat.zero_add, own.cellAt (m * 3) (by omega), r0]
    · rw [Nat.zero_add, own.cellAt (m * 3 + 1) (by omega), r1]
    · rw [Nat.zero_add, own.cellAt (m * 3 + 2) (by omega), r2]
theorem IsEs.grown {w0 : World} {B : Nat} {wr wx : World} {lo : Nat} {ts : List Tr} {A : Option Addr} {c : Nat} {cs : List (Option Addr × Nat)} {row : Option Nat} (h : IsEs w0 B wr lo ts A c cs) (hg : wr.grownBy wx row) (hn : ∀ g, row = some g → (Value.slice A ts.length c).ownBlock ≠ some g) : IsEs w0 B wx lo ts A c cs := by
  have hlt := h.own.lt
  refine ⟨h.len, ?_, h.tree⟩
  obtain ⟨h1, h2⟩ := h.own
  refine ⟨h1, ?_⟩
  rcases h2 with h2 | ⟨g, cap, cur, e, hb, hc, h3⟩
  · exact .inl h2
  · refine .inr ⟨g, cap, cur, e, hb, (hg.block g (hlt g (by rw [e]; rfl)).2 (fun e2 => hn g e2.symm (by rw [e]; rfl))).trans hc, h3⟩
theorem uniq_app : ∀ (a all b : List Tr), uniq all (a ++ b) = uniq (uniq all a) b
  | [], all, b => by simp [uniq]
  | k :: a, all, b => by
    simp only [List.cons_append, uniq]
    split
    · exact uniq_app a all b
    · exact uniq_app a _ b
theorem uniq_len : ∀ (a all : List Tr), (uniq all a).length ≤ all.length + a.length
  | [], all => by simp [uniq]
  | k :: a, all => by
    simp only [uniq]
    split
    · have := uniq_len a all; simp; omega
    · have := uniq_len a (all ++ [k]); simp at *; omega
/-- one more, if it is new -/
theorem uniq_one (all : List Tr) (q : Tr) : uniq all [q] = if num all q = 0 then all ++ [q] else all := by
  simp only [uniq]
  by_cases h : q ∈ all
  · rw [if_pos h, if_neg (num_mem.2 h)]
  · rw [if_neg h, if_pos (num_zero.2 h)]
def distL (l : List Tr) : List Tr := uniq [] (l.flatMap partsT)
set_option maxHeartbeats 2000000 in
set_option maxRecDepth 100000 in
theorem distinct_any (l : List Tr) (A : Option Addr) (c : Nat) (w : World) (h2 : l.length ≤ 2) (hs : ∀ t ∈ l, t.sz ≤ 1000) (hl : IsT w w.heap.size (.node 0 0 l) A c) :
    Calls Try.prog 40 #[.slice A l.length c] w fun e w' => e = .returned (.int .i64 ((distL l).length : Int)) ∧ Below w.heap.size w w' := by
  have hlen : l.length ≤ c ∧ l.length * 40 ≤ 140737488351232 := hl.len
  have HL := Lib.hid hl
  have HS := Lib.hid hs
  obtain ⟨i0, hi, hz0, hz1, hz2⟩ := info_parts infoE
  have HI := Lib.hid (And.intro hi (And.intro hz0 (And.intro hz1 hz2)))
  have E0 := Lib.hid (show IsEs w w.heap.size w w.heap.size [] none 0 [] from ⟨rfl, by simpa [rowC] using World.ownsRow_nil _ _ _ _, fun m hm => by simp at hm⟩)
  clear hl hs hi hz0 hz1 hz2
  go_enter Try.func40, Try.ntmps40
  go_wp2_with fail
  go_loopw [3, 10] (fun a x wx => ∃ (m : Nat) (al : List Tr) (A1 : Option Addr) (c1 : Nat) (cs : List (Option Addr × Nat)), m ≤ l.length ∧ x = .int .i64 (m : Int) ∧ al = uniq [] ((l.take m).flatMap partsT) ∧ al.length ≤ m * 1000 ∧ a = .slice A1 al.length c1 ∧ IsEs w w.heap.size wx w.heap.size al A1 c1 cs ∧ Below w.heap.size w wx) (fun _ x _ => l.length - (intOf x).toNat)
  case atStart => exact ⟨0, [], none, 0, [], Nat.zero_le _, rfl, by simp [uniq], by simp, rfl, E0.out, Below.refl _ _⟩
  case round =>
    obtain ⟨wo, rfl⟩ : ∃ wo, wo = wr := ⟨_, rfl⟩
    obtain ⟨m, al, A1, c1, cs, hm, rfl, hal, hall, rfl, hE, hbw⟩ := hrel
    have EE := Lib.hid hE
    have AL := Lib.hid hal
    have BW := Lib.hid hbw
    clear hE hal
    by_cases hlt : m < l.length
    · obtain ⟨b, o, Aq, cq, hA, hltb, p0, p1, p2, hkT⟩ := (show KidAt w w.heap.size A m l[m] from HL.out.kid m hlt)
      have hqs := HS.out l[m] (List.getElem_mem hlt)
      have NX := Lib.hid (show (l.take (m + 1)).flatMap partsT = (l.take m).flatMap partsT ++ partsT l[m] by rw [List.take_succ_eq_append_getElem hlt, List.flatMap_append]; simp)
      obtain ⟨q, hq⟩ : ∃ q, q = l[m] := ⟨_, rfl⟩
      rw [← hq] at p0 p1 p2 hkT hqs NX
      subst hA
      have d0 := (hbw.cell hltb).trans p0
      have d1 := (hbw.cell hltb).trans p1
      have d2 := (hbw.cell hltb).trans p2
      have hzw := hbw.size
      have hbq : Below wo.heap.size wo (wo.alloc (.cells #[.int .i64 q.k, .int .i64 q.i, .slice Aq q.ks.length cq] 24)) := (Below.refl _ _).alloc (Nat.le_refl _) _
      have KW := Lib.hid hkT
      have BQ := Lib.hid hbq
      have HQ0 := Lib.hid (hbw.trans (hbq.mono hzw))
      obtain ⟨k0, k1, k2⟩ := (Box3.new wo (.int .i64 q.k) (.int .i64 q.i) (.slice Aq q.ks.length cq)).cells
      clear p0 p1 p2 hkT hbq hbw hq
      go_wp2_with fail
      refine (rparts_any w w.heap.size q.sz q Aq cq _ (Nat.le_refl _) hqs KW.out (by exact HQ0.out) (by simp; omega)).mono ?_
      rintro x w5 ⟨A5, c5, ds, rfl, h5, hb5⟩
      have hz5 := hb5.size
      simp only [World.size_alloc] at hz5
      have PZ := parts_sz q
      have E5 := Lib.hid ((EE.out.keep BQ.out).keep hb5)
      have B5 := Lib.hid (HQ0.out.trans (hb5.mono (by simp; omega)))
      have P5 := Lib.hid (h5.isT B5.out (by omega) (by omega))
      have hpl : (partsT q).length ≤ 1000 := by omega
      have pcap := (show (partsT q).length ≤ c5 ∧ (partsT q).length * 40 ≤ 140737488351232 from P5.out.len)
      have N5' := Lib.hid (show IsEs w w.heap.size w5 (wo.heap.size + 1) (partsT q) A5 c5 ds by rw [World.size_alloc] at h5; exact h5)
      obtain ⟨pq, hpq⟩ : ∃ pq, pq = partsT q := ⟨_, rfl⟩
      rw [← hpq] at P5 NX hpl pcap N5' ⊢
      clear h5 hb5 hpq PZ k0 k1 k2 d0 d1 d2
      go_wp2_with fail
      go_loopw [3, 17] (fun a x wx => ∃ (j : Nat) (aj : List Tr) (Aj : Option Addr) (cj : Nat) (es : List (Option Addr × Nat)), j ≤ pq.length ∧ x = .int .i64 (j : Int) ∧ aj = uniq al (pq.take j) ∧ aj.length ≤ m * 1000 + j ∧ a = .slice Aj aj.length cj ∧ IsEs w w.heap.size wx w.heap.size aj Aj cj es ∧ Below w.heap.size w wx ∧ IsEs w w.heap.size wx (wo.heap.size + 1) pq A5 c5 ds ∧ (∀ g, (Value.slice Aj aj.length cj).ownBlock = some g → (Value.slice A5 pq.length c5).ownBlock ≠ some g)) (fun _ x _ => pq.length - (intOf x).toNat)
      case atStart => exact ⟨0, al, _, _, _, Nat.zero_le _, rfl, by simp [uniq], by omega, rfl, E5.out, B5.out, N5'.out, fun g h1 h2 => by have a := (EE.out.own.lt g h1).2; have b := (N5'.out.own.lt g h2).1; omega⟩
      case round =>
        obtain ⟨j, aj, Aj, cj, es, hj, rfl, haj, hajl, rfl, hEj, hbj, hPj, hdj⟩ := hrel
        have EJ := Lib.hid hEj
        have AJ := Lib.hid haj
        have BJ := Lib.hid hbj
        have PJ := Lib.hid hPj
        have DJ := Lib.hid hdj
        have hzj := hbj.size
        clear hEj haj hPj hdj
        by_cases hlj : j < pq.length
        · obtain ⟨b2, o2, Ar, cr, hA2, hltb2, p0, p1, p2, hrT⟩ := (show KidAt wr wr.heap.size A5 j pq[j] from (PJ.out.isT hbj hzj (by omega)).kid j hlj)
          have RW := Lib.hid (PJ.out.tree j hlj)
          have NJ := Lib.hid (show uniq al (pq.take (j + 1)) = if num aj pq[j] = 0 then aj ++ [pq[j]] else aj by rw [List.take_succ_eq_append_getElem hlj, uniq_app, ← AJ.out]; exact uniq_one aj pq[j])
          have CSR := Lib.hid (show (ds[j]'(by have := PJ.out.len; omega)) = (Ar, cr) by
            obtain ⟨gg, cap, hv, _, _⟩ := PJ.out.own.form (by omega)
            obtain ⟨r0, r1, r2⟩ := rowC_get pq ds j hlj PJ.out.len
            cases hv
            cases hA2
            have h9 := PJ.out.own.cellAt (j * 3 + 2) (by omega)
            rw [r2] at h9
            rw [Nat.zero_add] at p2
            rw [p2] at h9
            simp at h9
            exact Prod.ext h9.1.symm h9.2.symm)
          rw [CSR.out] at RW
          obtain ⟨r, hr⟩ : ∃ r, r = pq[j] := ⟨_, rfl⟩
          rw [← hr] at p0 p1 p2 hrT RW NJ
          subst hA2
          have hbr : Below wr.heap.size wr (wr.alloc (.cells #[.int .i64 r.k, .int .i64 r.i, .slice Ar r.ks.length cr] 24)) := (Below.refl _ _).alloc (Nat.le_refl _) _
          have RT := Lib.hid (hrT.keep hbr hbr.size)
          have AT := Lib.hid (((EJ.out.keep hbr).isT (hbj.trans (hbr.mono hzj)) (by simp; omega) (by omega)))
          have BR := Lib.hid hbr
          have RB := Lib.hid (Box3.new wr (.int .i64 r.k) (.int .i64 r.i) (.slice Ar r.ks.length cr))
          obtain ⟨k0, k1, k2⟩ := RB.out.cells
          clear hrT hbr hr
          go_wp2_with fail
          refine (rfind6_any aj 0 0 Aj cj r Ar cr _ (by exact AT.out) (by exact RT.out)).mono ?_
          rintro x w7 ⟨rfl, hb7⟩
          have hz7 := hb7.size
          simp only [World.size_alloc] at hz7
          have BK := Lib.hid (BR.out.trans (hb7.mono (by simp)))
          obtain ⟨z0, z1, z2⟩ := (RB.out.keep hb7 (by simp)).cells
          clear hb7 k0 k1 k2 p0 p1 p2
          by_cases hn : num aj r = 0
          · have hn' : ((num aj r : Int) == 0) = true := by simp [hn]
            have NN := Lib.hid (show uniq al (pq.take (j + 1)) = aj ++ [r] by rw [NJ.out, if_pos hn])
            have E7 := Lib.hid (EJ.out.keep BK.out)
            have P7 := Lib.hid (PJ.out.keep BK.out)
            have B7 := Lib.hid (BJ.out.trans (BK.out.mono hzj))
            clear hn
            go_wp2_with (at_builtin; refine wpList_append_lies _ (by rfl) _ _ _ (by rfl) w.heap.size 24 i0 _ 3 40 Try.underlying22 HI.out.1 HI.out.2.1 HI.out.2.2.1 HI.out.2.2.2 (by rfl) (by omega) (.slice Aj aj.length cj) aj.length (rowC aj es) (by rfl) (by exact E7.out.own.alloc _) ⟨w7.heap.size, 0, none⟩ 1 1 [.int .i64 r.k, .int .i64 r.i, .slice Ar r.ks.length cr] (by rfl) (by rfl) (by exact World.news_of_block (heap_alloc_last w7 _)) (by simp [Value.oneCell']) (by omega) (by unfold maxLen; omega) (by omega) (by simp; omega) (w7.heap.size + 1) (by simp) ?_; intro g4 cap4 w8 hown8 hgrow8 hat8 hlt8; have HO := Lib.hid hown8; have HG := Lib.hid hgrow8; have HA := Lib.hid hat8; clear hown8 hgrow8 hat8)
            have EN := Lib.hid (show IsEs w w.heap.size w8 w.heap.size (aj ++ [r]) (some ⟨g4, 0, none⟩) cap4 (es ++ [(Ar, cr)]) from ⟨by simp [EJ.out.len], by rw [rowC_snoc _ _ _ _ _ EJ.out.len, List.length_append, List.length_singleton]; exact HO.out, fun i hi => by
              have h1 := EJ.out.len
              rcases Nat.lt_or_ge i aj.length with h2 | h2
              · have := EJ.out.tree i h2
                simpa [List.getElem_append_left h2, List.getElem_append_left (show i < es.length by omega)] using this
              · obtain rfl : i = aj.length := by simp at hi; omega
                simpa [h1, List.getElem_append_right] using RW.out⟩)
            have hal7 : Below w7.heap.size w7 (w7.alloc (.cells #[.int .i64 r.k, .int .i64 r.i, .slice Ar r.ks.length cr] 24)) := (Below.refl _ _).alloc (Nat.le_refl _) _
            have P8 := Lib.hid ((P7.out.keep hal7).grown HG.out (fun g e => DJ.out g e))
            have B8 := Lib.hid ((B7.out.trans (hal7.mono B7.out.size)).grown HG.out (by simp; omega) (fun k e => (EJ.out.own.lt k e).1))
            have D8 := Lib.hid (show ∀ g, (Value.slice (some ⟨g4, 0, none⟩) (aj ++ [r]).length cap4).ownBlock = some g → (Value.slice (some ⟨b2, o2, none⟩) pq.length c5).ownBlock ≠ some g from fun g h1 h2 => by
              have e1 : g4 = g := by simpa [Value.ownBlock] using h1
              rcases HA.out with h | h
              · exact DJ.out g (by rw [h, e1]) h2
              · have := (P7.out.own.lt g h2).2; omega)
            have LE := Lib.hid (show (aj ++ [r]).length = aj.length + 1 by simp)
            clear hal7
            go_wp2_with fail
            go_roundw
            case rel => exact ⟨j + 1, aj ++ [r], _, _, _, by omega, by go_num, NN.out.symm, by rw [LE.out]; omega, by rw [LE.out], EN.out, B8.out, P8.out, D8.out⟩
            case measure => simp [intOf]; omega
          · have hn' : ((num aj r : Int) == 0) = false := by rw [beq_eq_false_iff_ne]; omega
            have NN := Lib.hid (show uniq al (pq.take (j + 1)) = aj by rw [NJ.out, if_neg hn])
            have E7 := Lib.hid (EJ.out.keep BK.out)
            have P7 := Lib.hid (PJ.out.keep BK.out)
            have B7 := Lib.hid (BJ.out.trans (BK.out.mono hzj))
            clear hn
            go_wp2_with fail
            go_roundw
            case rel => exact ⟨j + 1, aj, _, _, _, by omega, by go_num, NN.out.symm, by omega, rfl, E7.out, B7.out, P7.out, DJ.out⟩
            case measure => simp [intOf]; omega
        · obtain rfl : j = pq.length := by omega
          have N := Lib.hid (show aj = uniq [] ((l.take (m + 1)).flatMap partsT) by rw [AJ.out, List.take_length, NX.out, uniq_app, ← AL.out])
          clear hbj
          go_wp2_with fail
          go_roundw
          case rel => exact ⟨m + 1, aj, _, _, _, by omega, by go_num, N.out, by omega, rfl, EJ.out, BJ.out⟩
          case measure => simp [intOf]; omega
    · obtain rfl : m = l.length := by omega
      have N := Lib.hid (show al = distL l by rw [AL.out, List.take_length]; rfl)
      clear hbw
      go_wp2_with fail
      go_ret
      exact ⟨by rw [← N.out]; rfl, BW.out⟩
end Go.Proofs.Ytfdggmmibgbfnaa
