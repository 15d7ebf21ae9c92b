/- leads, swapped of package schema. -/
import Derived.Test.YtmmdhlemkcddmaaG3
namespace Go.Proofs.Ytmmdhlemkcddmaa
open Go.RowKit
set_option linter.unusedVariables false
set_option linter.unusedSimpArgs false
theorem same_right {a b : Tr} (ha : rightN a = 0) (hb : rightN b = 0) : sameB a b = decide (cmpT a b = 0) := by
  unfold sameB firstN
  rw [if_neg (by simp [ha]), decide_eq_true hb, Bool.true_and]
theorem swpL_no {t u : Tr} {own : Nat} {a b : Tr} (h : headB a b = true) : swpL t u own a.ks b.ks false = decide (cmpT a b = 0) := by
  have := swp_no t u own a b
  rw [swpT_eq] at this
  simpa [h] using this
/-- a swap in a box, two trees in boxes, two more beside -/
structure SW (w W : World) (a b t u : Tr) (own : Nat) (A B T U : Option Addr) (ca cb ct cu : Nat) : Prop where
  env : Env w W [(w.heap.size + 2, b, B, cb), (w.heap.size + 1, a, A, ca)]
  sw : W.heap[w.heap.size]? = some (.cells #[.int .i64 t.k, .int .i64 t.i, .slice T t.ks.length ct, .int .i64 u.k, .int .i64 u.i, .slice U u.ks.length cu, .int .u64 (own : Int)] 105 (0, 0))
  tt : IsT W W.heap.size t T ct
  tu : IsT W W.heap.size u U cu
theorem SW.keep {w W W' : World} {a b t u : Tr} {own : Nat} {A B T U : Option Addr} {ca cb ct cu : Nat} (h : SW w W a b t u own A B T U ca cb ct cu) (hb : Below W.heap.size W W') : SW w W' a b t u own A B T U ca cb ct cu :=
  ⟨h.env.keep hb, (hb.block _ (Array.getElem?_eq_some_iff.1 h.sw).1).trans h.sw, h.tt.keep hb hb.size, h.tu.keep hb hb.size⟩
theorem SW.cells {w W : World} {a b t u : Tr} {own : Nat} {A B T U : Option Addr} {ca cb ct cu : Nat} (h : SW w W a b t u own A B T U ca cb ct cu) :
    (W.cell? ⟨w.heap.size, 0, none⟩ = some (.int .i64 t.k) ∧ W.cell? ⟨w.heap.size, 1, none⟩ = some (.int .i64 t.i) ∧ W.cell? ⟨w.heap.size, 2, none⟩ = some (.slice T t.ks.length ct)) ∧
    (W.cell? ⟨w.heap.size, 3, none⟩ = some (.int .i64 u.k) ∧ W.cell? ⟨w.heap.size, 4, none⟩ = some (.int .i64 u.i) ∧ W.cell? ⟨w.heap.size, 5, none⟩ = some (.slice U u.ks.length cu)) ∧ W.cell? ⟨w.heap.size, 6, none⟩ = some (.int .u64 (own : Int)) := by
  have := h.sw
  simp [World.cell?, this]
theorem SW.start {w : World} {a b t u : Tr} (own : Nat) {A B T U : Option Addr} {ca cb ct cu : Nat} (ha : IsT w w.heap.size a A ca) (hb : IsT w w.heap.size b B cb) (ht : IsT w w.heap.size t T ct) (hu : IsT w w.heap.size u U cu) :
    SW w (((w.alloc (.cells #[.int .i64 t.k, .int .i64 t.i, .slice T t.ks.length ct, .int .i64 u.k, .int .i64 u.i, .slice U u.ks.length cu, .int .u64 (own : Int)] 105)).alloc (.cells #[.int .i64 a.k, .int .i64 a.i, .slice A a.ks.length ca] 24)).alloc (.cells #[.int .i64 b.k, .int .i64 b.i, .slice B b.ks.length cb] 24)) a b t u own A B T U ca cb ct cu := by
  have h0 := alB w (.cells #[.int .i64 t.k, .int .i64 t.i, .slice T t.ks.length ct, .int .i64 u.k, .int .i64 u.i, .slice U u.ks.length cu, .int .u64 (own : Int)] 105)
  have E1 := (((Env.start w).alloc (.cells #[.int .i64 t.k, .int .i64 t.i, .slice T t.ks.length ct, .int .i64 u.k, .int .i64 u.i, .slice U u.ks.length cu, .int .u64 (own : Int)] 105)).push (ha.keep h0 h0.size)).push ((hb.keep h0 h0.size).keep (alB _ _) (alB _ _).size)
  rw [World.size_alloc, World.size_alloc] at E1
  refine ⟨E1, ?_, ((ht.keep h0 h0.size).keep (alB _ _) (alB _ _).size).keep (alB _ _) (alB _ _).size, ((hu.keep h0 h0.size).keep (alB _ _) (alB _ _).size).keep (alB _ _) (alB _ _).size⟩
  exact ((alB _ _).block _ (by simp; omega)).trans (((alB _ _).block _ (by simp)).trans (new_at w _))
set_option maxHeartbeats 4000000 in
set_option maxRecDepth 100000 in
theorem leads_any (t u : Tr) (own : Nat) (hU : U64 own) (rt : rightN t = 0) (ru : rightN u = 0) : ∀ (N : Nat) (a b : Tr) (A B T U : Option Addr) (ca cb ct cu : Nat) (w : World), a.sz ≤ N → rightN a = 0 → rightN b = 0 → IsT w w.heap.size a A ca → IsT w w.heap.size b B cb → IsT w w.heap.size t T ct → IsT w w.heap.size u U cu →
    Calls Try.prog 85 #[.agg #[.int .i64 t.k, .int .i64 t.i, .slice T t.ks.length ct, .int .i64 u.k, .int .i64 u.i, .slice U u.ks.length cu, .int .u64 (own : Int)], .agg #[.int .i64 a.k, .int .i64 a.i, .slice A a.ks.length ca], .agg #[.int .i64 b.k, .int .i64 b.i, .slice B b.ks.length cb]] w fun e w' => e = .returned (.bool (swpT t u own a b true)) ∧ Below w.heap.size w w' := by
  intro N
  induction N with
  | zero => intro a b A B T U ca cb ct cu w h; have := sz_pos a; omega
  | succ N ih =>
    intro a b A B T U ca cb ct cu w hN ra rb ha hb ht hu
    have IH := Lib.hid ih
    have UU := Lib.hid hU
    have S0 := Lib.hid (SW.start own ha hb ht hu)
    have SE := Lib.hid (show swpT t u own a b true = (turnB a b t u || (headB a b && swpL t u own a.ks b.ks (!namesB own a))) by rw [swpT_eq]; simp)
    have HH := Lib.hid (show headB a b = true → a.k = b.k ∧ a.i = b.i ∧ a.ks.length = b.ks.length from headB_iff.1)
    have TB := Lib.hid (show turnB a b t u = (sameB a t && sameB b u) by rw [same_right ra rt, same_right rb ru]; rfl)
    have TZ := Lib.hid (show headB a t = false → turnB a b t u = false from fun h => by
      cases e : turnB a b t u with
      | false => rfl
      | true => rw [(turnB_iff.1 e).1, headB_iff.2 ⟨rfl, rfl, rfl⟩] at h; cases h)
    have SB := Lib.hid (same_right ra rb)
    have QI := Lib.hid (show a.k = 7 ∨ a.k = 10 → 0 ≤ a.i ∧ a.i ≤ 63 from fun h => by obtain ⟨_, _, hi⟩ := shp_quant (right_shp' ra).1 h; exact hi)
    have RA := Lib.hid (fun q (hq : q ∈ a.ks) => right_kid ra hq)
    have RB := Lib.hid (fun q (hq : q ∈ b.ks) => right_kid rb hq)
    have hl := ha.len
    have hl2 := hb.len
    clear ih ha hb ht hu ra rb rt ru hU
    go_enter Try.func85, Try.ntmps85
    go_upto_region 1 with fail
    go_cut [23] (fun v wc => v = .bool (turnB a b t u) ∧ SW w wc a b t u own A B T U ca cb ct cu)
    case first =>
      obtain ⟨⟨s0, s1, s2⟩, ⟨s3, s4, s5⟩, s6⟩ := S0.out.cells
      obtain ⟨a0, a1, a2⟩ := S0.out.env.cells (w.heap.size + 1) a A ca (by simp)
      go_wp2_with fail
      refine (sHead_any a t A T ca ct _ (by exact S0.out.env.tree (w.heap.size + 1) a A ca (by simp)) (by exact S0.out.tt)).mono ?_
      rintro e w1 ⟨rfl, hb1⟩
      have S1 := Lib.hid (S0.out.keep hb1)
      clear hb1 s0 s1 s2 s3 s4 s5 s6 a0 a1 a2 S0
      cases h0 : headB a t with
      | false =>
        have TF := Lib.hid (TZ.out h0)
        clear h0
        go_wp2_with fail
        go_meet
        exact ⟨by rw [TF.out], S1.out⟩
      | true =>
        clear h0
        obtain ⟨⟨s0, s1, s2⟩, ⟨s3, s4, s5⟩, s6⟩ := S1.out.cells
        obtain ⟨a0, a1, a2⟩ := S1.out.env.cells (w.heap.size + 1) a A ca (by simp)
        go_wp2_with fail
        refine (same_any a t A T ca ct _ (by exact S1.out.env.tree (w.heap.size + 1) a A ca (by simp)) (by exact S1.out.tt)).mono ?_
        rintro e w2 ⟨rfl, hb2⟩
        have S2 := Lib.hid (S1.out.keep hb2)
        clear hb2 s0 s1 s2 s3 s4 s5 s6 a0 a1 a2 S1
        cases h1 : sameB a t with
        | false =>
          rw [h1] at TB
          clear h1
          go_wp2_with fail
          go_meet
          exact ⟨by rw [TB.out]; rfl, S2.out⟩
        | true =>
          rw [h1] at TB
          clear h1
          obtain ⟨⟨s0, s1, s2⟩, ⟨s3, s4, s5⟩, s6⟩ := S2.out.cells
          obtain ⟨b0, b1, b2⟩ := S2.out.env.cells (w.heap.size + 2) b B cb (by simp)
          go_wp2_with fail
          refine (same_any b u B U cb cu _ (by exact S2.out.env.tree (w.heap.size + 2) b B cb (by simp)) (by exact S2.out.tu)).mono ?_
          rintro e w3 ⟨rfl, hb3⟩
          have S3 := Lib.hid (S2.out.keep hb3)
          clear hb3 s0 s1 s2 s3 s4 s5 s6 b0 b1 b2 S2
          go_wp2_with fail
          go_meet
          exact ⟨by rw [TB.out]; simp, S3.out⟩
    case rest =>
      obtain ⟨rfl, hE⟩ := hcut
      have S1 := Lib.hid hE
      clear hE S0 TZ TB
      cases h1 : turnB a b t u with
      | true =>
        rw [h1] at SE
        clear h1
        go_wp2_with fail
        go_ret
        exact ⟨by rw [SE.out]; rfl, S1.out.env.below⟩
      | false =>
        rw [h1, Bool.false_or] at SE
        clear h1
        obtain ⟨a0, a1, a2⟩ := S1.out.env.cells (w.heap.size + 1) a A ca (by simp)
        obtain ⟨b0, b1, b2⟩ := S1.out.env.cells (w.heap.size + 2) b B cb (by simp)
        go_wp2_with fail
        refine (sHead_any a b A B ca cb _ (by exact S1.out.env.tree (w.heap.size + 1) a A ca (by simp)) (by exact S1.out.env.tree (w.heap.size + 2) b B cb (by simp))).mono ?_
        rintro e w2 ⟨rfl, hb2⟩
        have S2 := Lib.hid (S1.out.keep hb2)
        clear hb2 a0 a1 a2 b0 b1 b2 S1
        cases h1 : headB a b with
        | false =>
          rw [h1] at SE
          clear h1
          go_wp2_with fail
          go_ret
          exact ⟨by rw [SE.out]; rfl, S2.out.env.below⟩
        | true =>
          rw [h1, Bool.true_and] at SE
          have HN := Lib.hid (HH.out h1).2.2
          have NO := Lib.hid (swpL_no (t := t) (u := u) (own := own) h1)
          clear h1 HH
          go_upto_region 5 with fail
          go_cut [38] (fun v wc => v = .bool (namesB own a) ∧ SW w wc a b t u own A B T U ca cb ct cu)
          case first =>
            obtain ⟨a0, a1, a2⟩ := S2.out.env.cells (w.heap.size + 1) a A ca (by simp)
            go_wp2_with fail
            refine (hIsQuant_any a.k a.i A a.ks.length ca _).mono ?_
            rintro e w3 ⟨rfl, hb3⟩
            have S3 := Lib.hid (S2.out.keep hb3)
            clear hb3 a0 a1 a2 S2
            have NB := Lib.hid (show namesB own a = (decide (a.k = 7 ∨ a.k = 10) && hasN own a.i) from rfl)
            by_cases hq : a.k = 7 ∨ a.k = 10
            · have HB := Lib.hid (show (bits .and .u64 ((own : Int) / 2 ^ a.i.toNat) 1 == 1) = hasN own a.i by rw [has_walk own a.i UU.out, hasN_in own a.i (QI.out hq).1 (QI.out hq).2])
              obtain ⟨i0, i1⟩ := QI.out hq
              rw [decide_eq_true hq] at NB ⊢
              clear hq
              obtain ⟨a0, a1, a2⟩ := S3.out.env.cells (w.heap.size + 1) a A ca (by simp)
              obtain ⟨_, _, s6⟩ := S3.out.cells
              go_wp2_with fail
              go_meet
              exact ⟨by rw [NB.out, HB.out]; rfl, S3.out⟩
            · rw [decide_eq_false hq] at NB ⊢
              clear hq
              go_wp2_with fail
              go_meet
              exact ⟨by rw [NB.out]; rfl, S3.out⟩
          case rest =>
            obtain ⟨rfl, hE⟩ := hcut
            have S3 := Lib.hid hE
            clear hE S2 QI
            cases h1 : namesB own a with
            | true =>
              rw [h1] at SE
              clear h1
              obtain ⟨a0, a1, a2⟩ := S3.out.env.cells (w.heap.size + 1) a A ca (by simp)
              obtain ⟨b0, b1, b2⟩ := S3.out.env.cells (w.heap.size + 2) b B cb (by simp)
              go_wp2_with fail
              refine (same_any a b A B ca cb _ (by exact S3.out.env.tree (w.heap.size + 1) a A ca (by simp)) (by exact S3.out.env.tree (w.heap.size + 2) b B cb (by simp))).mono ?_
              rintro e w4 ⟨rfl, hb4⟩
              have S4 := Lib.hid (S3.out.keep hb4)
              clear hb4 a0 a1 a2 b0 b1 b2 S3
              go_wp2_with fail
              go_ret
              exact ⟨by rw [SE.out, Bool.not_true, NO.out, ← SB.out]; rfl, S4.out.env.below⟩
            | false =>
              rw [h1, Bool.not_false] at SE
              clear h1 NO SB
              obtain ⟨a0, a1, a2⟩ := S3.out.env.cells (w.heap.size + 1) a A ca (by simp)
              go_wp2_with fail
              clear a0 a1 a2
              go_loopw [45] (fun i wr => ∃ m : Nat, m ≤ a.ks.length ∧ i = .int .i64 m ∧ swpL t u own (a.ks.take m) (b.ks.take m) true = true ∧ SW w wr a b t u own A B T U ca cb ct cu) (fun i _ => a.ks.length - (intOf i).toNat)
              case atStart => exact ⟨0, Nat.zero_le _, rfl, by simp [swpL_nil], S3.out⟩
              case round =>
                obtain ⟨m, hm', rfl, hal, hE⟩ := hrel
                have AL := Lib.hid hal
                have S5 := Lib.hid hE
                clear hal hE S3
                by_cases hlt : m < a.ks.length
                · have hltb : m < b.ks.length := by rw [← HN.out]; exact hlt
                  have TK := Lib.hid (swpL_take t u own true a.ks b.ks m hlt hltb)
                  have FF := Lib.hid (swpL_false t u own true a.ks b.ks m hlt hltb)
                  have RQ := Lib.hid (RA.out a.ks[m] (List.getElem_mem hlt))
                  have RP := Lib.hid (RB.out b.ks[m] (List.getElem_mem hltb))
                  have kz := kid_sz a m hlt
                  obtain ⟨ba, oa, Aa, ka, eA, hla, p0, p1, p2, hka⟩ := (S5.out.env.tree (w.heap.size + 1) a A ca (by simp)).kid m hlt
                  obtain ⟨bb, ob, Ab, kb, eB, hlb, q0, q1, q2, hkb⟩ := (S5.out.env.tree (w.heap.size + 2) b B cb (by simp)).kid m hltb
                  obtain ⟨qa, hqa⟩ : ∃ qa, qa = a.ks[m] := ⟨_, rfl⟩
                  obtain ⟨qb, hqb⟩ : ∃ qb, qb = b.ks[m] := ⟨_, rfl⟩
                  rw [← hqa] at p0 p1 p2 hka TK FF kz RQ
                  rw [← hqb] at q0 q1 q2 hkb TK FF RP
                  subst eA eB
                  have KA := Lib.hid hka
                  have KB := Lib.hid hkb
                  have x2 := (S5.out.env.cells (w.heap.size + 1) a (some ⟨ba, oa, none⟩) ca (by simp)).2.2
                  have y2 := (S5.out.env.cells (w.heap.size + 2) b (some ⟨bb, ob, none⟩) cb (by simp)).2.2
                  obtain ⟨⟨s0, s1, s2⟩, ⟨s3, s4, s5⟩, s6⟩ := S5.out.cells
                  have hw0 : w.heap.size < wr.heap.size := block_lt_of_cell s0
                  have BB : Below wr.drew.heap.size wr.drew wr.drew := Below.refl _ _
                  have SS := Lib.hid (fun (W : World) (h : Below wr.drew.heap.size wr.drew W) => And.intro (And.intro ((h.cell (block_lt_of_cell x2)).trans x2) ((h.cell (block_lt_of_cell y2)).trans y2)) (And.intro (And.intro ((h.cell hla).trans p0) (And.intro ((h.cell hla).trans p1) ((h.cell hla).trans p2))) (And.intro (And.intro ((h.cell hlb).trans q0) (And.intro ((h.cell hlb).trans q1) ((h.cell hlb).trans q2))) (And.intro (And.intro ((h.cell (block_lt_of_cell s0)).trans s0) (And.intro ((h.cell (block_lt_of_cell s1)).trans s1) ((h.cell (block_lt_of_cell s2)).trans s2))) (And.intro (And.intro ((h.cell (block_lt_of_cell s3)).trans s3) (And.intro ((h.cell (block_lt_of_cell s4)).trans s4) ((h.cell (block_lt_of_cell s5)).trans s5))) ((h.cell (block_lt_of_cell s6)).trans s6))))))
                  have hm0 : (0 : Int) ≤ (m : Int) := by omega
                  have hm1 : (m : Int) < (a.ks.length : Int) := by omega
                  have hm2 : (m : Int) < (b.ks.length : Int) := by omega
                  clear hqa hqb hka hkb p0 p1 p2 q0 q1 q2 x2 y2 s0 s1 s2 s3 s4 s5 s6
                  go_wp2_with fail
                  go_region_held3 (fun w' => (w'.cell? ⟨w.heap.size + 1, 2, none⟩ = some (.slice (some ⟨ba, oa, none⟩) a.ks.length ca) ∧ w'.cell? ⟨w.heap.size + 2, 2, none⟩ = some (.slice (some ⟨bb, ob, none⟩) b.ks.length cb)) ∧ ((w'.cell? ⟨ba, oa + m * 3, none⟩ = some (.int .i64 qa.k) ∧ w'.cell? ⟨ba, oa + m * 3 + 1, none⟩ = some (.int .i64 qa.i) ∧ w'.cell? ⟨ba, oa + m * 3 + 2, none⟩ = some (.slice Aa qa.ks.length ka)) ∧ ((w'.cell? ⟨bb, ob + m * 3, none⟩ = some (.int .i64 qb.k) ∧ w'.cell? ⟨bb, ob + m * 3 + 1, none⟩ = some (.int .i64 qb.i) ∧ w'.cell? ⟨bb, ob + m * 3 + 2, none⟩ = some (.slice Ab qb.ks.length kb)) ∧ ((w'.cell? ⟨w.heap.size, 0, none⟩ = some (.int .i64 t.k) ∧ w'.cell? ⟨w.heap.size, 1, none⟩ = some (.int .i64 t.i) ∧ w'.cell? ⟨w.heap.size, 2, none⟩ = some (.slice T t.ks.length ct)) ∧ ((w'.cell? ⟨w.heap.size, 3, none⟩ = some (.int .i64 u.k) ∧ w'.cell? ⟨w.heap.size, 4, none⟩ = some (.int .i64 u.i) ∧ w'.cell? ⟨w.heap.size, 5, none⟩ = some (.slice U u.ks.length cu)) ∧ w'.cell? ⟨w.heap.size, 6, none⟩ = some (.int .u64 (own : Int)))))))
                    (exact SS.out _ BB)
                    (first
                      | (go_at_call 85; refine (IH.out qa qb Aa Ab T U ka kb ct cu _ (by omega) RQ.out RP.out (KA.out.keep ((Below.refl _ _).drew) (Nat.le_refl _)) (KB.out.keep ((Below.refl _ _).drew) (Nat.le_refl _)) (S5.out.keep ((Below.refl _ _).drew)).tt (S5.out.keep ((Below.refl _ _).drew)).tu).mono ?_; rintro e w6 ⟨rfl, hb6⟩; replace BB := BB.trans (hb6.mono BB.size); clear hb6))
                  all_goals
                    have S6 := Lib.hid ((S5.out.keep ((Below.refl _ _).drew)).keep BB)
                    rw [AL.out, Bool.true_and] at TK
                    cases hr : swpT t u own qa qb true with
                    | true =>
                      rw [hr] at TK
                      go_wp2_with fail
                      go_roundw
                      case rel => exact ⟨m + 1, by omega, by go_num, TK.out, S6.out⟩
                      case measure => simp [intOf]; omega
                    | false =>
                      have F := Lib.hid (FF.out hr)
                      go_wp2_with fail
                      go_ret
                      exact ⟨by rw [SE.out, F.out]; rfl, S6.out.env.below⟩
                · obtain rfl : m = a.ks.length := by omega
                  have F := Lib.hid (show swpL t u own a.ks b.ks true = true by have := AL.out; rw [List.take_length, HN.out, List.take_length] at this; exact this)
                  go_wp2_with fail
                  go_ret
                  exact ⟨by rw [SE.out, F.out]; rfl, S5.out.env.below⟩
set_option maxHeartbeats 2000000 in
theorem swapped_any (a b t u : Tr) (A B T U : Option Addr) (ca cb ct cu : Nat) (w : World) (ra : rightN a = 0) (rb : rightN b = 0) (rt : rightN t = 0) (ru : rightN u = 0) (ha : IsT w w.heap.size a A ca) (hb : IsT w w.heap.size b B cb) (ht : IsT w w.heap.size t T ct) (hu : IsT w w.heap.size u U cu) :
    Calls Try.prog 41 #[.agg #[.int .i64 a.k, .int .i64 a.i, .slice A a.ks.length ca], .agg #[.int .i64 b.k, .int .i64 b.i, .slice B b.ks.length cb], .agg #[.int .i64 t.k, .int .i64 t.i, .slice T t.ks.length ct], .agg #[.int .i64 u.k, .int .i64 u.i, .slice U u.ks.length cu]] w fun e w' => e = .returned (.bool (swpT t u (varsT t ||| varsT u) a b true)) ∧ Below w.heap.size w w' := by
  have E0 := Lib.hid (env4 ha hb ht hu)
  have R := Lib.hid (And.intro (And.intro ra rb) (And.intro rt ru))
  have VT := Lib.hid (show valR varsT t = varsT t by unfold valR; rw [if_pos rt])
  have VU := Lib.hid (show valR varsT u = varsT u by unfold valR; rw [if_pos ru])
  have OR := Lib.hid (or_walk64 (varsT t) (varsT u) (varsT_U t) (varsT_U u))
  obtain ⟨t0, t1, t2⟩ := E0.out.cells (w.heap.size + 2) t T ct (by simp)
  clear ra rb rt ru ha hb ht hu
  go_enter Try.func41, Try.ntmps41
  go_wp2_with fail
  refine (vars_any t T ct _ (by exact E0.out.tree (w.heap.size + 2) t T ct (by simp))).mono ?_
  rintro e w1 ⟨rfl, hb1⟩
  have E1 := Lib.hid (E0.out.keep hb1)
  clear hb1 t0 t1 t2 E0
  rw [VT.out]
  obtain ⟨t0, t1, t2⟩ := E1.out.cells (w.heap.size + 3) u U cu (by simp)
  go_wp2_with fail
  refine (vars_any u U cu _ (by exact E1.out.tree (w.heap.size + 3) u U cu (by simp))).mono ?_
  rintro e w2 ⟨rfl, hb2⟩
  have E2 := Lib.hid (E1.out.keep hb2)
  clear hb2 t0 t1 t2 E1
  rw [VU.out]
  obtain ⟨u0, u1, u2⟩ := E2.out.cells (w.heap.size + 3) u U cu (by simp)
  obtain ⟨t0, t1, t2⟩ := E2.out.cells (w.heap.size + 2) t T ct (by simp)
  obtain ⟨b0, b1, b2⟩ := E2.out.cells (w.heap.size + 1) b B cb (by simp)
  obtain ⟨a0, a1, a2⟩ := E2.out.cells w.heap.size a A ca (by simp)
  have UU := Lib.hid (show U64 (varsT t ||| varsT u) from Nat.or_lt_two_pow (varsT_U t) (varsT_U u))
  go_wp2_with fail
  rw [OR.out]
  refine (leads_any t u (varsT t ||| varsT u) UU.out R.out.2.1 R.out.2.2 a.sz a b A B T U ca cb ct cu _ (Nat.le_refl _) R.out.1.1 R.out.1.2 (by exact E2.out.tree w.heap.size a A ca (by simp)) (by exact E2.out.tree (w.heap.size + 1) b B cb (by simp)) (by exact E2.out.tree (w.heap.size + 2) t T ct (by simp)) (by exact E2.out.tree (w.heap.size + 3) u U cu (by simp))).mono ?_
  rintro e w3 ⟨rfl, hb3⟩
  have E3 := Lib.hid (E2.out.keep hb3)
  clear hb3
  go_wp2_with fail
  go_ret
  exact ⟨rfl, E3.out.below⟩
end Go.Proofs.Ytmmdhlemkcddmaa
