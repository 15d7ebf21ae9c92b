/- The document's Swap. -/
import Derived.Test.YtmmdhlemkcddmaaT20
import Derived.Test.YtmmdhlemkcddmaaEV
import Derived.Test.YtmmdhlemkcddmaaLK
import Derived.Test.YtmmdhlemkcddmaaF3
import Derived.Deep.RegionHeld3
import Derived.Deep.DeepCutAuto
namespace Go.Proofs.Ytmmdhlemkcddmaa
open Go.RowKit
set_option linter.unusedVariables false
set_option linter.unusedSimpArgs false
abbrev exprV (t : Tr) (A : Option Addr) (c : Nat) : Value := .agg #[.int .i64 t.k, .int .i64 t.i, .slice A t.ks.length c]
theorem env4 {w : World} {a b t u : Tr} {A B T U : Option Addr} {ca cb ct cu : Nat} (ha : IsT w w.heap.size a A ca) (hb : IsT w w.heap.size b B cb) (ht : IsT w w.heap.size t T ct) (hu : IsT w w.heap.size u U cu) :
    Env w ((((w.alloc (.cells #[.int .i64 a.k, .int .i64 a.i, .slice A a.ks.length ca] 24)).alloc (.cells #[.int .i64 b.k, .int .i64 b.i, .slice B b.ks.length cb] 24)).alloc (.cells #[.int .i64 t.k, .int .i64 t.i, .slice T t.ks.length ct] 24)).alloc (.cells #[.int .i64 u.k, .int .i64 u.i, .slice U u.ks.length cu] 24))
      [(w.heap.size + 3, u, U, cu), (w.heap.size + 2, t, T, ct), (w.heap.size + 1, b, B, cb), (w.heap.size, a, A, ca)] := by
  have := (env3 ha hb ht).push (((hu.keep (alB w _) (alB w _).size).keep (alB _ _) (alB _ _).size).keep (alB _ _) (alB _ _).size)
  rw [World.size_alloc, World.size_alloc, World.size_alloc] at this
  exact this
theorem turn_like (a b t u : Tr) : turnB a b t u = (likeB a t && likeB b u) := rfl
set_option maxHeartbeats 4000000 in
set_option maxRecDepth 100000 in
theorem rswap_any (t u : Tr) (own : Nat) (hU : U64 own) : ∀ (N : Nat) (a b : Tr) (A B T U : Option Addr) (ca cb ct cu : Nat) (may : Bool) (w : World), a.sz ≤ N → IsT w w.heap.size a A ca → IsT w w.heap.size b B cb → IsT w w.heap.size t T ct → IsT w w.heap.size u U cu →
    Calls Try.prog 43 #[.agg #[.int .i64 a.k, .int .i64 a.i, .slice A a.ks.length ca], .agg #[.int .i64 b.k, .int .i64 b.i, .slice B b.ks.length cb], .agg #[.int .i64 t.k, .int .i64 t.i, .slice T t.ks.length ct], .agg #[.int .i64 u.k, .int .i64 u.i, .slice U u.ks.length cu], .int .u64 (own : Int), .bool may] w fun e w' => e = .returned (.bool (swpT t u own a b may)) ∧ Below w.heap.size w w' := by
  intro N
  induction N with
  | zero => intro a b A B T U ca cb ct cu may w h; have := sz_pos a; omega
  | succ N ih =>
    intro a b A B T U ca cb ct cu may w hN ha hb ht hu
    have IH := Lib.hid ih
    have UU := Lib.hid hU
    have E0 := Lib.hid (env4 ha hb ht hu)
    have SE := Lib.hid (swpT_eq t u own a b may)
    have HH := Lib.hid (show headB a b = true → a.k = b.k ∧ a.i = b.i ∧ a.ks.length = b.ks.length from headB_iff.1)
    have hl := ha.len
    have hl2 := hb.len
    clear ih ha hb ht hu
    go_enter Try.func43, Try.ntmps43
    go_upto_region 1 with fail
    go_cut [25] (fun v wc => v = .bool (may && turnB a b t u) ∧ Env w wc [(w.heap.size + 3, u, U, cu), (w.heap.size + 2, t, T, ct), (w.heap.size + 1, b, B, cb), (w.heap.size, a, A, ca)])
    case first =>
      cases may with
      | false =>
        go_wp2_with fail
        go_meet
        exact ⟨by simp, E0.out⟩
      | true =>
        obtain ⟨a0, a1, a2⟩ := E0.out.cells w.heap.size a A ca (by simp)
        obtain ⟨t0, t1, t2⟩ := E0.out.cells (w.heap.size + 2) t T ct (by simp)
        go_wp2_with fail
        refine (like_any a t A T ca ct _ (by exact E0.out.tree w.heap.size a A ca (by simp)) (by exact E0.out.tree (w.heap.size + 2) t T ct (by simp))).mono ?_
        rintro e w1 ⟨rfl, hb1⟩
        have E1 := Lib.hid (E0.out.keep hb1)
        clear hb1 a0 a1 a2 t0 t1 t2 E0
        have TL := Lib.hid (turn_like a b t u)
        cases h1 : likeB a t with
        | false =>
          rw [h1] at TL
          go_wp2_with fail
          go_meet
          exact ⟨by rw [TL.out]; rfl, E1.out⟩
        | true =>
          rw [h1] at TL
          obtain ⟨a0, a1, a2⟩ := E1.out.cells (w.heap.size + 1) b B cb (by simp)
          obtain ⟨t0, t1, t2⟩ := E1.out.cells (w.heap.size + 3) u U cu (by simp)
          go_wp2_with fail
          refine (like_any b u B U cb cu _ (by exact E1.out.tree (w.heap.size + 1) b B cb (by simp)) (by exact E1.out.tree (w.heap.size + 3) u U cu (by simp))).mono ?_
          rintro e w2 ⟨rfl, hb2⟩
          have E2 := Lib.hid (E1.out.keep hb2)
          clear hb2 a0 a1 a2 t0 t1 t2 E1
          go_wp2_with fail
          go_meet
          exact ⟨by rw [TL.out]; simp, E2.out⟩
    case rest =>
      obtain ⟨rfl, hE⟩ := hcut
      have E1 := Lib.hid hE
      clear hE E0
      cases h1 : (may && turnB a b t u) with
      | true =>
        rw [h1] at SE
        go_wp2_with fail
        go_ret
        exact ⟨by rw [SE.out]; rfl, E1.out.below⟩
      | false =>
        rw [h1, Bool.false_or] at SE
        clear h1
        go_upto_region 3 with fail
        go_cut [46] (fun v wc => v = .bool (!headB a b) ∧ Env w wc [(w.heap.size + 3, u, U, cu), (w.heap.size + 2, t, T, ct), (w.heap.size + 1, b, B, cb), (w.heap.size, a, A, ca)])
        case first =>
          obtain ⟨a0, a1, a2⟩ := E1.out.cells w.heap.size a A ca (by simp)
          obtain ⟨b0, b1, b2⟩ := E1.out.cells (w.heap.size + 1) b B cb (by simp)
          by_cases hk : a.k = b.k
          · have hk' : (a.k != b.k) = false := by simp [hk]
            by_cases hi : a.i = b.i
            · have hi' : (a.i != b.i) = false := by simp [hi]
              by_cases hn : a.ks.length = b.ks.length
              · have hn' : ((a.ks.length : Int) != (b.ks.length : Int)) = false := by simp [hn]
                have HB := Lib.hid (show headB a b = true from headB_iff.2 ⟨hk, hi, hn⟩)
                clear hk hi hn
                go_wp2_with fail
                go_meet
                exact ⟨by rw [HB.out]; rfl, E1.out⟩
              · have hn' : ((a.ks.length : Int) != (b.ks.length : Int)) = true := by rw [bne_iff_ne]; omega
                have HB := Lib.hid (show headB a b = false from decide_eq_false fun h => hn h.2.2)
                clear hk hi hn
                go_wp2_with fail
                go_meet
                exact ⟨by rw [HB.out]; rfl, E1.out⟩
            · have hi' : (a.i != b.i) = true := by rw [bne_iff_ne]; exact hi
              have HB := Lib.hid (show headB a b = false from decide_eq_false fun h => hi h.2.1)
              clear hk hi
              go_wp2_with fail
              go_meet
              exact ⟨by rw [HB.out]; rfl, E1.out⟩
          · have hk' : (a.k != b.k) = true := by rw [bne_iff_ne]; exact hk
            have HB := Lib.hid (show headB a b = false from decide_eq_false fun h => hk h.1)
            clear hk
            go_wp2_with fail
            go_meet
            exact ⟨by rw [HB.out]; rfl, E1.out⟩
        case rest =>
          obtain ⟨rfl, hE⟩ := hcut
          have E2 := Lib.hid hE
          clear hE E1
          cases h1 : headB a b with
          | false =>
            rw [h1] at SE
            go_wp2_with fail
            go_ret
            exact ⟨by rw [SE.out]; rfl, E2.out.below⟩
          | true =>
            rw [h1, Bool.true_and] at SE
            have HN := Lib.hid (HH.out h1).2.2
            clear h1 HH
            go_upto_region 6 with fail
            go_cut [55] (fun v wc => v = .bool (namesB own a) ∧ Env w wc [(w.heap.size + 3, u, U, cu), (w.heap.size + 2, t, T, ct), (w.heap.size + 1, b, B, cb), (w.heap.size, a, A, ca)])
            case first =>
              obtain ⟨a0, a1, a2⟩ := E2.out.cells w.heap.size a A ca (by simp)
              go_wp2_with fail
              refine (rquantified_any a.k a.i A a.ks.length ca _).mono ?_
              rintro e w3 ⟨rfl, hb3⟩
              have E3 := Lib.hid (E2.out.keep hb3)
              clear hb3 a0 a1 a2 E2
              have NB := Lib.hid (show namesB own a = (decide (a.k = 7 ∨ a.k = 10) && hasN own a.i) from rfl)
              by_cases hq : a.k = 7 ∨ a.k = 10
              · rw [decide_eq_true hq] at NB ⊢
                clear hq
                obtain ⟨a0, a1, a2⟩ := E3.out.cells w.heap.size a A ca (by simp)
                go_wp2_with fail
                refine (rhas_any own a.i _ UU.out).mono ?_
                rintro e w4 ⟨rfl, hw4⟩
                rw [← hw4]
                clear hw4
                go_wp2_with fail
                go_meet
                exact ⟨by rw [NB.out]; rfl, E3.out⟩
              · rw [decide_eq_false hq] at NB ⊢
                clear hq
                go_wp2_with fail
                go_meet
                exact ⟨by rw [NB.out]; rfl, E3.out⟩
            case rest =>
              obtain ⟨rfl, hE⟩ := hcut
              have E3 := Lib.hid hE
              clear hE E2
              go_upto_if 55 with fail
              go_cut [13] (fun v wc => v = .bool (may && !namesB own a) ∧ Env w wc [(w.heap.size + 3, u, U, cu), (w.heap.size + 2, t, T, ct), (w.heap.size + 1, b, B, cb), (w.heap.size, a, A, ca)])
              case first =>
                cases h1 : namesB own a with
                | true =>
                  have NX := Lib.hid (show (may && !namesB own a) = false by rw [h1]; simp)
                  go_wp2_with fail
                  go_meet
                  exact ⟨by rw [NX.out], E3.out⟩
                | false =>
                  have NX := Lib.hid (show (may && !namesB own a) = may by rw [h1]; simp)
                  go_wp2_with fail
                  go_meet
                  exact ⟨by rw [NX.out], E3.out⟩
              case rest =>
                obtain ⟨rfl, hE⟩ := hcut
                have E4 := Lib.hid hE
                clear hE E3
                obtain ⟨mm, hmm⟩ : ∃ mm, mm = (may && !namesB own a) := ⟨_, rfl⟩
                rw [← hmm] at SE ⊢
                clear hmm
                obtain ⟨a0, a1, a2⟩ := E4.out.cells w.heap.size a A ca (by simp)
                go_wp2_with fail
                clear a0 a1 a2
                go_loopw [59] (fun i wr => ∃ m : Nat, m ≤ a.ks.length ∧ i = .int .i64 m ∧ swpL t u own (a.ks.take m) (b.ks.take m) mm = true ∧ Env w wr [(w.heap.size + 3, u, U, cu), (w.heap.size + 2, t, T, ct), (w.heap.size + 1, b, B, cb), (w.heap.size, a, A, ca)]) (fun i _ => a.ks.length - (intOf i).toNat)
                case atStart => exact ⟨0, Nat.zero_le _, rfl, by simp [swpL_nil], E4.out⟩
                case round =>
                  obtain ⟨m, hm', rfl, hal, hE⟩ := hrel
                  have AL := Lib.hid hal
                  have E5 := Lib.hid hE
                  clear hal hE E4
                  by_cases hlt : m < a.ks.length
                  · have hltb : m < b.ks.length := by rw [← HN.out]; exact hlt
                    have TK := Lib.hid (swpL_take t u own mm a.ks b.ks m hlt hltb)
                    have FF := Lib.hid (swpL_false t u own mm a.ks b.ks m hlt hltb)
                    have kz := kid_sz a m hlt
                    obtain ⟨ba, oa, Aa, ka, eA, hla, p0, p1, p2, hka⟩ := (E5.out.tree w.heap.size a A ca (by simp)).kid m hlt
                    obtain ⟨bb, ob, Ab, kb, eB, hlb, q0, q1, q2, hkb⟩ := (E5.out.tree (w.heap.size + 1) b B cb (by simp)).kid m hltb
                    obtain ⟨qa, hqa⟩ : ∃ qa, qa = a.ks[m] := ⟨_, rfl⟩
                    obtain ⟨qb, hqb⟩ : ∃ qb, qb = b.ks[m] := ⟨_, rfl⟩
                    rw [← hqa] at p0 p1 p2 hka TK FF kz
                    rw [← hqb] at q0 q1 q2 hkb TK FF
                    subst eA eB
                    have KA := Lib.hid hka
                    have KB := Lib.hid hkb
                    have x2 := (E5.out.cells w.heap.size a (some ⟨ba, oa, none⟩) ca (by simp)).2.2
                    have y2 := (E5.out.cells (w.heap.size + 1) b (some ⟨bb, ob, none⟩) cb (by simp)).2.2
                    obtain ⟨t0, t1, t2⟩ := E5.out.cells (w.heap.size + 2) t T ct (by simp)
                    obtain ⟨u0, u1, u2⟩ := E5.out.cells (w.heap.size + 3) u U cu (by simp)
                    have BB : Below wr.drew.heap.size wr.drew wr.drew := Below.refl _ _
                    have SS := Lib.hid (fun (W : World) (h : Below wr.drew.heap.size wr.drew W) => And.intro (And.intro ((h.cell (block_lt_of_cell x2)).trans x2) ((h.cell (block_lt_of_cell y2)).trans y2)) (And.intro (And.intro ((h.cell hla).trans p0) (And.intro ((h.cell hla).trans p1) ((h.cell hla).trans p2))) (And.intro (And.intro ((h.cell hlb).trans q0) (And.intro ((h.cell hlb).trans q1) ((h.cell hlb).trans q2))) (And.intro (And.intro ((h.cell (block_lt_of_cell t0)).trans t0) (And.intro ((h.cell (block_lt_of_cell t1)).trans t1) ((h.cell (block_lt_of_cell t2)).trans t2))) (And.intro ((h.cell (block_lt_of_cell u0)).trans u0) (And.intro ((h.cell (block_lt_of_cell u1)).trans u1) ((h.cell (block_lt_of_cell u2)).trans u2)))))))
                    have hm0 : (0 : Int) ≤ (m : Int) := by omega
                    have hm1 : (m : Int) < (a.ks.length : Int) := by omega
                    have hm2 : (m : Int) < (b.ks.length : Int) := by omega
                    clear hqa hqb hka hkb p0 p1 p2 q0 q1 q2 x2 y2 t0 t1 t2 u0 u1 u2
                    go_wp2_with fail
                    go_region_held3 (fun w' => (w'.cell? ⟨w.heap.size, 2, none⟩ = some (.slice (some ⟨ba, oa, none⟩) a.ks.length ca) ∧ w'.cell? ⟨w.heap.size + 1, 2, none⟩ = some (.slice (some ⟨bb, ob, none⟩) b.ks.length cb)) ∧ ((w'.cell? ⟨ba, oa + m * 3, none⟩ = some (.int .i64 qa.k) ∧ w'.cell? ⟨ba, oa + m * 3 + 1, none⟩ = some (.int .i64 qa.i) ∧ w'.cell? ⟨ba, oa + m * 3 + 2, none⟩ = some (.slice Aa qa.ks.length ka)) ∧ ((w'.cell? ⟨bb, ob + m * 3, none⟩ = some (.int .i64 qb.k) ∧ w'.cell? ⟨bb, ob + m * 3 + 1, none⟩ = some (.int .i64 qb.i) ∧ w'.cell? ⟨bb, ob + m * 3 + 2, none⟩ = some (.slice Ab qb.ks.length kb)) ∧ ((w'.cell? ⟨w.heap.size + 2, 0, none⟩ = some (.int .i64 t.k) ∧ w'.cell? ⟨w.heap.size + 2, 1, none⟩ = some (.int .i64 t.i) ∧ w'.cell? ⟨w.heap.size + 2, 2, none⟩ = some (.slice T t.ks.length ct)) ∧ (w'.cell? ⟨w.heap.size + 3, 0, none⟩ = some (.int .i64 u.k) ∧ w'.cell? ⟨w.heap.size + 3, 1, none⟩ = some (.int .i64 u.i) ∧ w'.cell? ⟨w.heap.size + 3, 2, none⟩ = some (.slice U u.ks.length cu))))))
                      (exact SS.out _ BB)
                      (first
                        | (go_at_call 43; refine (IH.out qa qb Aa Ab T U ka kb ct cu mm _ (by omega) (KA.out.keep ((Below.refl _ _).drew) (Nat.le_refl _)) (KB.out.keep ((Below.refl _ _).drew) (Nat.le_refl _)) ((E5.out.keep ((Below.refl _ _).drew)).tree (w.heap.size + 2) t T ct (by simp)) ((E5.out.keep ((Below.refl _ _).drew)).tree (w.heap.size + 3) u U cu (by simp))).mono ?_; rintro e w6 ⟨rfl, hb6⟩; replace BB := BB.trans (hb6.mono BB.size); clear hb6))
                    have E6 := Lib.hid ((E5.out.keep ((Below.refl _ _).drew)).keep BB)
                    rw [AL.out, Bool.true_and] at TK
                    cases hr : swpT t u own qa qb mm with
                    | true =>
                      rw [hr] at TK
                      go_wp2_with fail
                      go_roundw
                      case rel => exact ⟨m + 1, by omega, by go_num, TK.out, E6.out⟩
                      case measure => simp [intOf]; omega
                    | false =>
                      have F := Lib.hid (FF.out hr)
                      go_wp2_with fail
                      go_ret
                      exact ⟨by rw [SE.out, F.out]; rfl, E6.out.below⟩
                  · obtain rfl : m = a.ks.length := by omega
                    have F := Lib.hid (show swpL t u own a.ks b.ks mm = true by have := AL.out; rw [List.take_length, HN.out, List.take_length] at this; exact this)
                    go_wp2_with fail
                    go_ret
                    exact ⟨by rw [SE.out, F.out]; rfl, E5.out.below⟩
end Go.Proofs.Ytmmdhlemkcddmaa
