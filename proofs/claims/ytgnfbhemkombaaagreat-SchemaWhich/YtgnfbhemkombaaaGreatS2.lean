/- replaced of package subst. -/
import Derived.Test.YtgnfbhemkombaaaGreatS1
import Derived.Test.YtgnfbhemkombaaaGreatLY
import Derived.Test.YtgnfbhemkombaaaGreatE25
import Derived.Deep.RegionLaw
namespace Go.Proofs.YtgnfbhemkombaaaGreat
open Go.RowKit
set_option linter.unusedVariables false
set_option linter.unusedSimpArgs false
/-- what a round of replaced holds -/
structure Rr (wr W : World) (S : Nat) (t : Tr) (A : Option Addr) (c : Nat) (q : Tr) (A' : Option Addr) (c' : Nat) (l : List (Int × Tr)) (Al : Option Addr) (cl : Nat) : Prop where
  kid : Box3 W wr.heap.size (.int .i64 q.k) (.int .i64 q.i) (.slice A' q.ks.length c')
  eb : Box3 W S (.int .i64 t.k) (.int .i64 t.i) (.slice A t.ks.length c)
  isT : IsT W W.heap.size q A' c'
  isP : IsP W W.heap.size l Al cl
  below : Below wr.heap.size wr W
theorem Rr.keep {wr W W' : World} {S : Nat} {t : Tr} {A : Option Addr} {c : Nat} {q : Tr} {A' : Option Addr} {c' : Nat} {l : List (Int × Tr)} {Al : Option Addr} {cl : Nat} (h : Rr wr W S t A c q A' c' l Al cl) (hb : Below W.heap.size W W') : Rr wr W' S t A c q A' c' l Al cl :=
  ⟨h.kid.keep hb h.kid.lt, h.eb.keep hb h.eb.lt, h.isT.keep hb hb.size, h.isP.up hb, h.below.trans (hb.mono h.below.size)⟩
theorem Rr.alloc {wr W : World} {S : Nat} {t : Tr} {A : Option Addr} {c : Nat} {q : Tr} {A' : Option Addr} {c' : Nat} {l : List (Int × Tr)} {Al : Option Addr} {cl : Nat} (h : Rr wr W S t A c q A' c' l Al cl) (o : Obj) : Rr wr (W.alloc o) S t A c q A' c' l Al cl := h.keep ((Below.refl _ _).alloc (Nat.le_refl _) _)
theorem below_alloc (w : World) (o : Obj) : Below w.heap.size w (w.alloc o) := (Below.refl _ _).alloc (Nat.le_refl _) _
theorem news0 (w : World) (x y z : Value) (t : TypeId) (j : Nat) (u : Value) (h : [x, y, z][j]? = some u) : (w.alloc (.cells #[x, y, z] t)).cell? ((⟨w.heap.size, 0, none⟩ : Addr).add j) = some u := by
  have e2 : (⟨w.heap.size, 0, none⟩ : Addr).add j = ⟨w.heap.size, j, none⟩ := by unfold Addr.add; split <;> simp_all
  rw [e2, cell_new3]
  simpa using h
set_option maxHeartbeats 8000000 in
set_option maxRecDepth 100000 in
theorem replaced_any (l : List (Int × Tr)) (Al : Option Addr) (cl : Nat) (hlr : ∀ p ∈ l, rightN p.2 = 0) : ∀ (N : Nat) (t : Tr) (A : Option Addr) (c bd : Nat) (w : World), t.sz ≤ N → U64 bd → IsT w w.heap.size t A c → IsP w w.heap.size l Al cl →
    Calls Tryz.prog 138 #[.agg #[.int .i64 t.k, .int .i64 t.i, .slice A t.ks.length c], .slice Al l.length cl, .int .u64 (bd : Int)] w (NewT w (putE l t bd)) := by
  intro N
  induction N with
  | zero => intro t A c bd w h; have := sz_pos t; omega
  | succ N ih =>
    intro t A c bd w hN hU ht hp
    obtain ⟨e0, e1, hb0⟩ := two_boxes0 w (.int .i64 t.k) (.int .i64 t.i) (.slice A t.ks.length c) (.int .i64 0) (.int .i64 0) (.slice none 0 0)
    have IH := Lib.hid ih
    have E0 := Lib.hid e0
    have E1 := Lib.hid e1
    have HB0 := Lib.hid hb0
    have HU := Lib.hid hU
    have P0 := Lib.hid (hp.up hb0)
    have T0 := Lib.hid (ht.keep hb0 hb0.size)
    have hl := ht.len
    obtain ⟨i0, hi, hz0, hz1, hz2⟩ := info_parts infoE
    have HI := Lib.hid (And.intro hi (And.intro hz0 (And.intro hz1 hz2)))
    clear hi hz0 hz1 hz2
    obtain ⟨y0, y1, y2⟩ := e0.cells
    clear e0 e1 hb0 hU hp ht ih
    go_enter Tryz.func138, Tryz.ntmps138
    go_wp2_with fail
    refine (termFor_any t.k t.i A t.ks.length c l Al cl bd _ HU.out (by exact P0.out)).mono ?_
    rintro e w1 ⟨hb1, hr⟩
    have X0 := Lib.hid (E0.out.keep hb1 E0.out.lt)
    have X1 := Lib.hid (E1.out.keep hb1 E1.out.lt)
    have W1 := Lib.hid (HB0.out.trans (hb1.mono HB0.out.size))
    have P1 := Lib.hid (P0.out.up hb1)
    have T1 := Lib.hid (T0.out.keep hb1 hb1.size)
    have HB1 := Lib.hid hb1
    have hs1 : w.heap.size + 1 < w1.heap.size := X1.out.lt
    clear y0 y1 y2 hb1 E0 E1 HB0 P0 T0
    cases hk : lookE l bd t.k t.i with
    | some u =>
      rw [hk] at hr
      obtain ⟨A1, c1, rfl, hu⟩ := hr
      have hur : rightN u = 0 := hlr _ (lookP_mem (lookE_var hk).2.2)
      have F := Lib.hid (putE_some hk)
      have HA := Lib.hid (show atN u [] = (u, 0) by unfold atN; rw [if_pos hur, partAt_nil])
      have UU := Lib.hid ((hu.keep HB1.out HB1.out.size).keep (below_alloc w1 (.cells #[.int .i64 u.k, .int .i64 u.i, .slice A1 u.ks.length c1] 24)) (below_alloc w1 (.cells #[.int .i64 u.k, .int .i64 u.i, .slice A1 u.ks.length c1] 24)).size)
      clear hk hu hur
      go_wp2_with fail
      refine (at_any u A1 c1 none 0 0 [] _ (by exact UU.out) rfl (by unfold maxLen; omega) (Rd.nil _ _ _ _)).mono ?_
      rintro e w2 ⟨hb2, A2, c2, ho, rfl⟩
      rw [HA.out] at ho ⊢
      have hs2 := hb2.size
      simp only [World.size_alloc] at hs2 hb2 ho
      have R2 := Lib.hid ((X1.out.keep (below_alloc w1 _) X1.out.lt).keep (hb2.mono (Nat.le_refl _)) (by omega))
      have W2 := Lib.hid ((W1.out.trans ((below_alloc w1 _).mono W1.out.size)).trans (hb2.mono (by omega)))
      have HO := Lib.hid ho
      have z0 : ∀ o, (w2.alloc o).cell? ⟨w.heap.size + 1, 0, none⟩ = some (.int .i64 0) := fun o => (R2.out.keep (below_alloc w2 o) R2.out.lt).cells.1
      have z1 : ∀ o, (w2.alloc o).cell? ⟨w.heap.size + 1, 1, none⟩ = some (.int .i64 0) := fun o => (R2.out.keep (below_alloc w2 o) R2.out.lt).cells.2.1
      have z2 : ∀ o, (w2.alloc o).cell? ⟨w.heap.size + 1, 2, none⟩ = some (.slice none 0 0) := fun o => (R2.out.keep (below_alloc w2 o) R2.out.lt).cells.2.2
      have f0 : ∀ o, (w2.alloc o).frozen? ⟨w.heap.size + 1, 0, none⟩ = false := fun o => (R2.out.keep (below_alloc w2 o) R2.out.lt).frozen 0
      have f1 : ∀ o, (w2.alloc o).frozen? ⟨w.heap.size + 1, 1, none⟩ = false := fun o => (R2.out.keep (below_alloc w2 o) R2.out.lt).frozen 1
      have f2 : ∀ o, (w2.alloc o).frozen? ⟨w.heap.size + 1, 2, none⟩ = false := fun o => (R2.out.keep (below_alloc w2 o) R2.out.lt).frozen 2
      clear hb2 ho
      go_wp2_with fail
      refine bodyPost_ret (v := .agg #[.int .i64 u.k, .int .i64 u.i, .slice A2 u.ks.length c2]) (by simp [results, Tryz.results138, go_sem, z0, z1, z2]) rfl ?_
      rw [F.out]
      refine ⟨A2, c2, rfl, ?_, below_set3 (W2.out.trans ((below_alloc w2 _).mono W2.out.size)) _ _ _ (by omega)⟩
      have hs : SameIn (w1.heap.size + 1) w2.heap.size w2 ((((w2.alloc (.cells #[.int .i64 u.k, .int .i64 u.i, .slice A2 u.ks.length c2] 24)).setCell ⟨w.heap.size + 1, 0, none⟩ (.int .i64 u.k)).setCell ⟨w.heap.size + 1, 1, none⟩ (.int .i64 u.i)).setCell ⟨w.heap.size + 1, 2, none⟩ (.slice A2 u.ks.length c2)) := fun k k1 k2 => by
        rw [heap_setCell_other _ _ _ _ (by show k ≠ w.heap.size + 1; omega), heap_setCell_other _ _ _ _ (by show k ≠ w.heap.size + 1; omega), heap_setCell_other _ _ _ _ (by show k ≠ w.heap.size + 1; omega), Below.heap_alloc _ _ _ k2]
      have := ((OwnT.same _ hs HO.out).lower (lo' := w.heap.size) (by omega)).widen (hi' := w2.heap.size + 1) (by omega)
      simpa using this
    | none =>
      rw [hk] at hr
      obtain rfl := hr
      have F := Lib.hid (putE_none hk)
      have y0 : ∀ o, (w1.alloc o).cell? ⟨w.heap.size, 0, none⟩ = some (.int .i64 t.k) := fun o => (X0.out.keep (below_alloc w1 o) X0.out.lt).cells.1
      have y1 : ∀ o, (w1.alloc o).cell? ⟨w.heap.size, 1, none⟩ = some (.int .i64 t.i) := fun o => (X0.out.keep (below_alloc w1 o) X0.out.lt).cells.2.1
      have yy2 : ∀ o o', ((w1.alloc o).alloc o').cell? ⟨w.heap.size, 2, none⟩ = some (.slice A t.ks.length c) := fun o o' => ((X0.out.keep (below_alloc w1 o) X0.out.lt).keep (below_alloc _ o') (X0.out.keep (below_alloc w1 o) X0.out.lt).lt).cells.2.2
      obtain ⟨bd', hbd⟩ : ∃ bd', bd' = bdB t.k t.i bd := ⟨_, rfl⟩
      have HBD := Lib.hid hbd
      have U' := Lib.hid (show U64 bd' by rw [hbd]; exact bdB_U HU.out)
      rw [← hbd] at F
      clear hk hbd
      obtain ⟨ts, hts⟩ : ∃ ts, ts = t.ks.map fun q => putE l q bd' := ⟨_, rfl⟩
      have HTS := Lib.hid hts
      have hlen : ts.length = t.ks.length := by rw [hts, List.length_map]
      rw [← hts] at F
      clear hts
      have BC := Lib.hid (Box3.new (w1.alloc (.cells #[.int .i64 0, .int .i64 0, .slice none 0 0] 24)) (.int .i64 t.k) (.int .i64 t.i) (.slice none 0 0))
      have B2 : ∀ o o', Below w1.heap.size w1 ((w1.alloc o).alloc o') := fun o o' => (below_alloc w1 o).trans ((below_alloc _ o').mono (by simp))
      have HB2 := Lib.hid B2
      clear B2
      go_wp2_with fail
      go_loopw [36] (fun i wr => ∃ (m : Nat) (A1 : Option Addr) (c1 : Nat) (cs : List (Option Addr × Nat)), m ≤ t.ks.length ∧ i = .int .i64 m ∧ Lay w wr w.heap.size (w1.heap.size + 2) (w1.heap.size + 1) (.int .i64 t.k) (.int .i64 t.i) (ts.take m) A1 c1 cs ∧ Below w1.heap.size w1 wr) (fun i _ => t.ks.length - (intOf i).toNat)
      case atStart =>
        have e2 := BC.out
        simp only [World.size_alloc] at e2
        refine ⟨0, none, 0, [], Nat.zero_le _, rfl, ⟨W1.out.trans ((HB2.out _ _).mono W1.out.size), rfl, by simpa using e2, by omega, by omega, by simpa [rowC] using World.ownsRow_nil _ _ _ _, by simp [OwnL]⟩, HB2.out _ _⟩
      case round =>
        obtain ⟨m, A1, c1, cs, hm', rfl, hL, hb⟩ := hrel
        have HL := Lib.hid hL
        have HBW := Lib.hid hb
        have hwr := hb.size
        clear hL hb
        have X0r := Lib.hid (X0.out.keep HBW.out (by omega))
        have X1r := Lib.hid (X1.out.keep HBW.out (by omega))
        by_cases hlt : m < t.ks.length
        · obtain ⟨b, o, A', c', rfl, hlt', p0, p1, p2, hk⟩ := T1.out.kid m hlt
          have kz := kid_sz t m hlt
          have hm1 : m < ts.length := by omega
          have tl : (ts.take m).length = m := by rw [List.length_take]; omega
          have NT := Lib.hid (show ts.take (m + 1) = ts.take m ++ [putE l t.ks[m] bd'] by rw [List.take_succ_eq_append_getElem hm1]; congr 2; simp [HTS.out])
          obtain ⟨q, hq⟩ : ∃ q, q = t.ks[m] := ⟨_, rfl⟩
          rw [← hq] at p0 p1 p2 hk kz NT
          clear hq
          obtain ⟨q', hq'⟩ : ∃ q', q' = putE l q bd' := ⟨_, rfl⟩
          have HQ' := Lib.hid hq'
          rw [← hq'] at NT
          have d0 := (HBW.out.cell hlt').trans p0
          have d1 := (HBW.out.cell hlt').trans p1
          have d2 := (HBW.out.cell hlt').trans p2
          have ha := below_alloc wr (.cells #[.int .i64 q.k, .int .i64 q.i, .slice A' q.ks.length c'] 24)
          have T' : Rr wr (wr.alloc (.cells #[.int .i64 q.k, .int .i64 q.i, .slice A' q.ks.length c'] 24)).drew w.heap.size t (some ⟨b, o, none⟩) c q A' c' l Al cl :=
            (Rr.mk (Box3.new _ _ _ _) (X0r.out.keep ha X0r.out.lt) ((hk.keep HBW.out HBW.out.size).keep ha ha.size) ((P1.out.up HBW.out).up ha) ha).keep ((Below.refl _ _).drew)
          have IHQ := Lib.hid (fun (w : World) (h1 : IsT w w.heap.size q A' c') (h2 : IsP w w.heap.size l Al cl) => (by rw [HQ'.out]; exact IH.out q A' c' bd' w (by omega) U'.out h1 h2 : Calls Tryz.prog 138 #[.agg #[.int .i64 q.k, .int .i64 q.i, .slice A' q.ks.length c'], .slice Al l.length cl, .int .u64 (bd' : Int)] w (NewT w q')))
          have bx0 : (wr.alloc (.cells #[.int .i64 q.k, .int .i64 q.i, .slice A' q.ks.length c'] 24)).drew.cell? ⟨w1.heap.size + 1, 2, none⟩ = some (.slice A1 m c1) := by
            have := ((HL.out.box.keep ha HL.out.box.lt).keep ((Below.refl _ _).drew) (HL.out.box.keep ha HL.out.box.lt).lt).cells.2.2
            rw [tl] at this
            exact this
          have HLl := HL.out.own.lt
          have STEP := Lib.hid (fun wa wx w4 => @Lay.stepG w wr wa wx w4 _ _ _ _ _ _ q' _ _ _ HL.out)
          have OWN := Lib.hid (fun (W : World) (h : Below wr.heap.size wr W) => ownsRow_same (hi := wr.heap.size) (w' := W) HL.out.own (fun k k1 k2 => h.block k k2) (fun g e => (HL.out.own.lt g e).2))
          have BXW := Lib.hid (fun (W : World) (h : Below wr.heap.size wr W) => HL.out.box.keep h HL.out.box.lt)
          have HLT := Lib.hid HLl
          have hbl2 : w1.heap.size + 1 < wr.heap.size := HL.out.box.lt
          rw [tl] at STEP OWN BXW HLT
          have NBL := Lib.hid (fun (W w4 : World) (g cap : Nat) (h : Below wr.heap.size wr W) (hg4 : W.grownBy w4 (Value.slice A1 m c1).ownBlock) => (by
            have hz3 := h.size
            refine HBW.out.trans ((h.mono hwr).trans ?_)
            refine Below.setCell (p := ⟨w1.heap.size + 1, 2, none⟩) ?_ (by show w1.heap.size ≤ w1.heap.size + 1; omega) _
            exact ⟨hg4.os, hg4.tape, hg4.output, hg4.size, fun k hk => hg4.block k (by omega) (fun e => by have := HLT.out _ e.symm; omega)⟩ : Below w1.heap.size w1 (w4.setCell ⟨w1.heap.size + 1, 2, none⟩ (.slice (some ⟨g, 0, none⟩) (m + 1) cap))))
          clear p0 p1 p2 hk hq' ha HLl
          go_wp2_with fail
          obtain ⟨k0, k1, k2⟩ := T'.kid.cells
          obtain ⟨e0, e1, e2⟩ := T'.eb.cells
          go_region_law
            (first
              | (go_simp; go_at_call 144; refine (sbound_any t.k t.i (some ⟨b, o, none⟩) t.ks.length c bd _ HU.out).mono ?_; rintro e w2 ⟨rfl, hb2⟩; rw [← HBD.out]; replace T' := T'.keep hb2; have bxa := (BXW.out _ T'.below).cells.2.2; obtain ⟨k3, k4, k5⟩ := T'.kid.cells; obtain ⟨e3, e4, e5⟩ := T'.eb.cells; clear hb2; go_wp2_with fail)
              | (go_simp; go_at_call 138; refine (IHQ.out _ (by exact T'.isT) (by exact T'.isP)).mono ?_; rintro e w3 ⟨A2, c2, rfl, ho, hb3⟩; have HO := Lib.hid (ho.lower (lo' := wr.heap.size) T'.below.size); replace T' := T'.keep hb3; have bxb := (BXW.out _ T'.below).cells.2.2; have bxc := fun o => (BXW.out _ (T'.alloc o).below).cells.2.2; clear hb3 ho; go_wp2_with fail)
              | (refine step_append_lies _ rfl _ _ _ rfl (w1.heap.size + 2) 24 i0 _ 3 40 Tryz.underlying22 HI.out.1 HI.out.2.1 HI.out.2.2.1 HI.out.2.2.2 (by rfl) (by omega) (.slice A1 m c1) m (rowC (ts.take m) cs) (by rfl) (by exact OWN.out _ (T'.alloc _).below) ⟨w3.heap.size, 0, none⟩ 1 1 [.int .i64 q'.k, .int .i64 q'.i, .slice A2 q'.ks.length c2] (by rfl) (by rfl) (by exact news0 _ _ _ _ _) (by simp [Value.oneCell']) (by omega) (by unfold maxLen; omega) (by omega) (by have := T'.below.size; simp; omega) (w3.heap.size + 1) (by simp) ?_; intro g cap w4 hown4 hgrow hat hlt4; have B4 := Lib.hid ((BXW.out _ (T'.alloc _).below).grown hgrow (fun e => by have := HLT.out _ e.symm; omega)); have c4 := B4.out.cells.2.2; have f4 := B4.out.frozen 2; have HO4 := Lib.hid hown4; have HG4 := Lib.hid hgrow; have HAT := Lib.hid hat; clear hown4 hgrow hat))
          all_goals
            have NL := Lib.hid (STEP.out w3 _ w4 T'.below HO.out (below_alloc w3 _) HO4.out HG4.out (by simpa using HAT.out))
            have NB := Lib.hid (NBL.out _ w4 g cap (T'.alloc _).below HG4.out)
            go_wp2_with fail
            go_roundw
            case rel => exact ⟨m + 1, _, _, _, by omega, by go_num, by rw [NT.out]; exact NL.out, NB.out⟩
            case measure => simp [intOf]; omega
        · obtain rfl : m = t.ks.length := by omega
          have tl : ts.take t.ks.length = ts := by rw [← hlen, List.take_length]
          rw [tl] at HL
          have DONE := Lib.hid (Lay.done (t := .node t.k t.i ts) HL.out)
          have bxx := HL.out.box
          rw [hlen] at bxx
          obtain ⟨x0, x1, x2⟩ := bxx.cells
          obtain ⟨z0, z1, z2⟩ := X1r.out.cells
          have f0 := X1r.out.frozen 0
          have f1 := X1r.out.frozen 1
          have f2 := X1r.out.frozen 2
          have hbl := HL.out.below
          clear bxx
          go_wp2_with fail
          refine bodyPost_ret (v := .agg #[.int .i64 t.k, .int .i64 t.i, .slice A1 t.ks.length c1]) (by simp [results, Tryz.results138, go_sem, z0, z1, z2]) rfl ?_
          rw [F.out]
          refine ⟨A1, c1, by simp only [node_k, node_i, node_ks, hlen], ?_, below_set3 hbl _ _ _ (by omega)⟩
          have hs : SameIn (w1.heap.size + 2) wr.heap.size wr (((wr.setCell ⟨w.heap.size + 1, 0, none⟩ (.int .i64 t.k)).setCell ⟨w.heap.size + 1, 1, none⟩ (.int .i64 t.i)).setCell ⟨w.heap.size + 1, 2, none⟩ (.slice A1 t.ks.length c1)) := same_set3 _ _ _ _ _ (by omega)
          have := (OwnT.same _ hs DONE.out).lower (lo' := w.heap.size) (by omega)
          simpa using this
end Go.Proofs.YtgnfbhemkombaaaGreat
