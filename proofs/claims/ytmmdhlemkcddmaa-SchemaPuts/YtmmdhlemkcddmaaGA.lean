/- G1, G2, G3, G4, G5, G6, G7, one behind the other. -/
import Derived.Test.YtmmdhlemkcddmaaT20
import Derived.Test.YtmmdhlemkcddmaaEV
import Derived.Test.YtmmdhlemkcddmaaLK
import Derived.Test.YtmmdhlemkcddmaaF3
import Derived.Deep.RegionHeld3
import Derived.Deep.DeepCutAuto
import Derived.Test.YtmmdhlemkcddmaaE12
import Derived.Test.YtmmdhlemkcddmaaFO
import Derived.Test.YtmmdhlemkcddmaaFT
import Derived.Test.YtmmdhlemkcddmaaV0
namespace Go.Proofs.Ytmmdhlemkcddmaa
open Go.RowKit
set_option linter.unusedVariables false
set_option linter.unusedSimpArgs false
abbrev exprV (t : Tr) (A : Option Addr) (c : Nat) : Value := .agg #[.int .i64 t.k, .int .i64 t.i, .slice A t.ks.length c]
theorem env4 {w : World} {a b t u : Tr} {A B T U : Option Addr} {ca cb ct cu : Nat} (ha : IsT w w.heap.size a A ca) (hb : IsT w w.heap.size b B cb) (ht : IsT w w.heap.size t T ct) (hu : IsT w w.heap.size u U cu) :
    Env w ((((w.alloc (.cells #[.int .i64 a.k, .int .i64 a.i, .slice A a.ks.length ca] 24)).alloc (.cells #[.int .i64 b.k, .int .i64 b.i, .slice B b.ks.length cb] 24)).alloc (.cells #[.int .i64 t.k, .int .i64 t.i, .slice T t.ks.length ct] 24)).alloc (.cells #[.int .i64 u.k, .int .i64 u.i, .slice U u.ks.length cu] 24))
      [(w.heap.size + 3, u, U, cu), (w.heap.size + 2, t, T, ct), (w.heap.size + 1, b, B, cb), (w.heap.size, a, A, ca)] := by
  have := (env3 ha hb ht).push (((hu.keep (alB w _) (alB w _).size).keep (alB _ _) (alB _ _).size).keep (alB _ _) (alB _ _).size)
  rw [World.size_alloc, World.size_alloc, World.size_alloc] at this
  exact this
theorem turn_like (a b t u : Tr) : turnB a b t u = (likeB a t && likeB b u) := rfl
set_option maxHeartbeats 4000000 in
set_option maxRecDepth 100000 in
theorem rswap_any (t u : Tr) (own : Nat) (hU : U64 own) : ∀ (N : Nat) (a b : Tr) (A B T U : Option Addr) (ca cb ct cu : Nat) (may : Bool) (w : World), a.sz ≤ N → IsT w w.heap.size a A ca → IsT w w.heap.size b B cb → IsT w w.heap.size t T ct → IsT w w.heap.size u U cu →
    Calls Try.prog 43 #[.agg #[.int .i64 a.k, .int .i64 a.i, .slice A a.ks.length ca], .agg #[.int .i64 b.k, .int .i64 b.i, .slice B b.ks.length cb], .agg #[.int .i64 t.k, .int .i64 t.i, .slice T t.ks.length ct], .agg #[.int .i64 u.k, .int .i64 u.i, .slice U u.ks.length cu], .int .u64 (own : Int), .bool may] w fun e w' => e = .returned (.bool (swpT t u own a b may)) ∧ Below w.heap.size w w' := by
  intro N
  induction N with
  | zero => intro a b A B T U ca cb ct cu may w h; have := sz_pos a; omega
  | succ N ih =>
    intro a b A B T U ca cb ct cu may w hN ha hb ht hu
    have IH := Lib.hid ih
    have UU := Lib.hid hU
    have E0 := Lib.hid (env4 ha hb ht hu)
    have SE := Lib.hid (swpT_eq t u own a b may)
    have HH := Lib.hid (show headB a b = true → a.k = b.k ∧ a.i = b.i ∧ a.ks.length = b.ks.length from headB_iff.1)
    have hl := ha.len
    have hl2 := hb.len
    clear ih ha hb ht hu
    go_enter Try.func43, Try.ntmps43
    go_upto_region 1 with fail
    go_cut [25] (fun v wc => v = .bool (may && turnB a b t u) ∧ Env w wc [(w.heap.size + 3, u, U, cu), (w.heap.size + 2, t, T, ct), (w.heap.size + 1, b, B, cb), (w.heap.size, a, A, ca)])
    case first =>
      cases may with
      | false =>
        go_wp2_with fail
        go_meet
        exact ⟨by simp, E0.out⟩
      | true =>
        obtain ⟨a0, a1, a2⟩ := E0.out.cells w.heap.size a A ca (by simp)
        obtain ⟨t0, t1, t2⟩ := E0.out.cells (w.heap.size + 2) t T ct (by simp)
        go_wp2_with fail
        refine (like_any a t A T ca ct _ (by exact E0.out.tree w.heap.size a A ca (by simp)) (by exact E0.out.tree (w.heap.size + 2) t T ct (by simp))).mono ?_
        rintro e w1 ⟨rfl, hb1⟩
        have E1 := Lib.hid (E0.out.keep hb1)
        clear hb1 a0 a1 a2 t0 t1 t2 E0
        have TL := Lib.hid (turn_like a b t u)
        cases h1 : likeB a t with
        | false =>
          rw [h1] at TL
          go_wp2_with fail
          go_meet
          exact ⟨by rw [TL.out]; rfl, E1.out⟩
        | true =>
          rw [h1] at TL
          obtain ⟨a0, a1, a2⟩ := E1.out.cells (w.heap.size + 1) b B cb (by simp)
          obtain ⟨t0, t1, t2⟩ := E1.out.cells (w.heap.size + 3) u U cu (by simp)
          go_wp2_with fail
          refine (like_any b u B U cb cu _ (by exact E1.out.tree (w.heap.size + 1) b B cb (by simp)) (by exact E1.out.tree (w.heap.size + 3) u U cu (by simp))).mono ?_
          rintro e w2 ⟨rfl, hb2⟩
          have E2 := Lib.hid (E1.out.keep hb2)
          clear hb2 a0 a1 a2 t0 t1 t2 E1
          go_wp2_with fail
          go_meet
          exact ⟨by rw [TL.out]; simp, E2.out⟩
    case rest =>
      obtain ⟨rfl, hE⟩ := hcut
      have E1 := Lib.hid hE
      clear hE E0
      cases h1 : (may && turnB a b t u) with
      | true =>
        rw [h1] at SE
        go_wp2_with fail
        go_ret
        exact ⟨by rw [SE.out]; rfl, E1.out.below⟩
      | false =>
        rw [h1, Bool.false_or] at SE
        clear h1
        go_upto_region 3 with fail
        go_cut [46] (fun v wc => v = .bool (!headB a b) ∧ Env w wc [(w.heap.size + 3, u, U, cu), (w.heap.size + 2, t, T, ct), (w.heap.size + 1, b, B, cb), (w.heap.size, a, A, ca)])
        case first =>
          obtain ⟨a0, a1, a2⟩ := E1.out.cells w.heap.size a A ca (by simp)
          obtain ⟨b0, b1, b2⟩ := E1.out.cells (w.heap.size + 1) b B cb (by simp)
          by_cases hk : a.k = b.k
          · have hk' : (a.k != b.k) = false := by simp [hk]
            by_cases hi : a.i = b.i
            · have hi' : (a.i != b.i) = false := by simp [hi]
              by_cases hn : a.ks.length = b.ks.length
              · have hn' : ((a.ks.length : Int) != (b.ks.length : Int)) = false := by simp [hn]
                have HB := Lib.hid (show headB a b = true from headB_iff.2 ⟨hk, hi, hn⟩)
                clear hk hi hn
                go_wp2_with fail
                go_meet
                exact ⟨by rw [HB.out]; rfl, E1.out⟩
              · have hn' : ((a.ks.length : Int) != (b.ks.length : Int)) = true := by rw [bne_iff_ne]; omega
                have HB := Lib.hid (show headB a b = false from decide_eq_false fun h => hn h.2.2)
                clear hk hi hn
                go_wp2_with fail
                go_meet
                exact ⟨by rw [HB.out]; rfl, E1.out⟩
            · have hi' : (a.i != b.i) = true := by rw [bne_iff_ne]; exact hi
              have HB := Lib.hid (show headB a b = false from decide_eq_false fun h => hi h.2.1)
              clear hk hi
              go_wp2_with fail
              go_meet
              exact ⟨by rw [HB.out]; rfl, E1.out⟩
          · have hk' : (a.k != b.k) = true := by rw [bne_iff_ne]; exact hk
            have HB := Lib.hid (show headB a b = false from decide_eq_false fun h => hk h.1)
            clear hk
            go_wp2_with fail
            go_meet
            exact ⟨by rw [HB.out]; rfl, E1.out⟩
        case rest =>
          obtain ⟨rfl, hE⟩ := hcut
          have E2 := Lib.hid hE
          clear hE E1
          cases h1 : headB a b with
          | false =>
            rw [h1] at SE
            go_wp2_with fail
            go_ret
            exact ⟨by rw [SE.out]; rfl, E2.out.below⟩
          | true =>
            rw [h1, Bool.true_and] at SE
            have HN := Lib.hid (HH.out h1).2.2
            clear h1 HH
            go_upto_region 6 with fail
            go_cut [55] (fun v wc => v = .bool (namesB own a) ∧ Env w wc [(w.heap.size + 3, u, U, cu), (w.heap.size + 2, t, T, ct), (w.heap.size + 1, b, B, cb), (w.heap.size, a, A, ca)])
            case first =>
              obtain ⟨a0, a1, a2⟩ := E2.out.cells w.heap.size a A ca (by simp)
              go_wp2_with fail
              refine (rquantified_any a.k a.i A a.ks.length ca _).mono ?_
              rintro e w3 ⟨rfl, hb3⟩
              have E3 := Lib.hid (E2.out.keep hb3)
              clear hb3 a0 a1 a2 E2
              have NB := Lib.hid (show namesB own a = (decide (a.k = 7 ∨ a.k = 10) && hasN own a.i) from rfl)
              by_cases hq : a.k = 7 ∨ a.k = 10
              · rw [decide_eq_true hq] at NB ⊢
                clear hq
                obtain ⟨a0, a1, a2⟩ := E3.out.cells w.heap.size a A ca (by simp)
                go_wp2_with fail
                refine (rhas_any own a.i _ UU.out).mono ?_
                rintro e w4 ⟨rfl, hw4⟩
                rw [← hw4]
                clear hw4
                go_wp2_with fail
                go_meet
                exact ⟨by rw [NB.out]; rfl, E3.out⟩
              · rw [decide_eq_false hq] at NB ⊢
                clear hq
                go_wp2_with fail
                go_meet
                exact ⟨by rw [NB.out]; rfl, E3.out⟩
            case rest =>
              obtain ⟨rfl, hE⟩ := hcut
              have E3 := Lib.hid hE
              clear hE E2
              go_upto_if 55 with fail
              go_cut [13] (fun v wc => v = .bool (may && !namesB own a) ∧ Env w wc [(w.heap.size + 3, u, U, cu), (w.heap.size + 2, t, T, ct), (w.heap.size + 1, b, B, cb), (w.heap.size, a, A, ca)])
              case first =>
                cases h1 : namesB own a with
                | true =>
                  have NX := Lib.hid (show (may && !namesB own a) = false by rw [h1]; simp)
                  go_wp2_with fail
                  go_meet
                  exact ⟨by rw [NX.out], E3.out⟩
                | false =>
                  have NX := Lib.hid (show (may && !namesB own a) = may by rw [h1]; simp)
                  go_wp2_with fail
                  go_meet
                  exact ⟨by rw [NX.out], E3.out⟩
              case rest =>
                obtain ⟨rfl, hE⟩ := hcut
                have E4 := Lib.hid hE
                clear hE E3
                obtain ⟨mm, hmm⟩ : ∃ mm, mm = (may && !namesB own a) := ⟨_, rfl⟩
                rw [← hmm] at SE ⊢
                clear hmm
                obtain ⟨a0, a1, a2⟩ := E4.out.cells w.heap.size a A ca (by simp)
                go_wp2_with fail
                clear a0 a1 a2
                go_loopw [59] (fun i wr => ∃ m : Nat, m ≤ a.ks.length ∧ i = .int .i64 m ∧ swpL t u own (a.ks.take m) (b.ks.take m) mm = true ∧ Env w wr [(w.heap.size + 3, u, U, cu), (w.heap.size + 2, t, T, ct), (w.heap.size + 1, b, B, cb), (w.heap.size, a, A, ca)]) (fun i _ => a.ks.length - (intOf i).toNat)
                case atStart => exact ⟨0, Nat.zero_le _, rfl, by simp [swpL_nil], E4.out⟩
                case round =>
                  obtain ⟨m, hm', rfl, hal, hE⟩ := hrel
                  have AL := Lib.hid hal
                  have E5 := Lib.hid hE
                  clear hal hE E4
                  by_cases hlt : m < a.ks.length
                  · have hltb : m < b.ks.length := by rw [← HN.out]; exact hlt
                    have TK := Lib.hid (swpL_take t u own mm a.ks b.ks m hlt hltb)
                    have FF := Lib.hid (swpL_false t u own mm a.ks b.ks m hlt hltb)
                    have kz := kid_sz a m hlt
                    obtain ⟨ba, oa, Aa, ka, eA, hla, p0, p1, p2, hka⟩ := (E5.out.tree w.heap.size a A ca (by simp)).kid m hlt
                    obtain ⟨bb, ob, Ab, kb, eB, hlb, q0, q1, q2, hkb⟩ := (E5.out.tree (w.heap.size + 1) b B cb (by simp)).kid m hltb
                    obtain ⟨qa, hqa⟩ : ∃ qa, qa = a.ks[m] := ⟨_, rfl⟩
                    obtain ⟨qb, hqb⟩ : ∃ qb, qb = b.ks[m] := ⟨_, rfl⟩
                    rw [← hqa] at p0 p1 p2 hka TK FF kz
                    rw [← hqb] at q0 q1 q2 hkb TK FF
                    subst eA eB
                    have KA := Lib.hid hka
                    have KB := Lib.hid hkb
                    have x2 := (E5.out.cells w.heap.size a (some ⟨ba, oa, none⟩) ca (by simp)).2.2
                    have y2 := (E5.out.cells (w.heap.size + 1) b (some ⟨bb, ob, none⟩) cb (by simp)).2.2
                    obtain ⟨t0, t1, t2⟩ := E5.out.cells (w.heap.size + 2) t T ct (by simp)
                    obtain ⟨u0, u1, u2⟩ := E5.out.cells (w.heap.size + 3) u U cu (by simp)
                    have BB : Below wr.drew.heap.size wr.drew wr.drew := Below.refl _ _
                    have SS := Lib.hid (fun (W : World) (h : Below wr.drew.heap.size wr.drew W) => And.intro (And.intro ((h.cell (block_lt_of_cell x2)).trans x2) ((h.cell (block_lt_of_cell y2)).trans y2)) (And.intro (And.intro ((h.cell hla).trans p0) (And.intro ((h.cell hla).trans p1) ((h.cell hla).trans p2))) (And.intro (And.intro ((h.cell hlb).trans q0) (And.intro ((h.cell hlb).trans q1) ((h.cell hlb).trans q2))) (And.intro (And.intro ((h.cell (block_lt_of_cell t0)).trans t0) (And.intro ((h.cell (block_lt_of_cell t1)).trans t1) ((h.cell (block_lt_of_cell t2)).trans t2))) (And.intro ((h.cell (block_lt_of_cell u0)).trans u0) (And.intro ((h.cell (block_lt_of_cell u1)).trans u1) ((h.cell (block_lt_of_cell u2)).trans u2)))))))
                    have hm0 : (0 : Int) ≤ (m : Int) := by omega
                    have hm1 : (m : Int) < (a.ks.length : Int) := by omega
                    have hm2 : (m : Int) < (b.ks.length : Int) := by omega
                    clear hqa hqb hka hkb p0 p1 p2 q0 q1 q2 x2 y2 t0 t1 t2 u0 u1 u2
                    go_wp2_with fail
                    go_region_held3 (fun w' => (w'.cell? ⟨w.heap.size, 2, none⟩ = some (.slice (some ⟨ba, oa, none⟩) a.ks.length ca) ∧ w'.cell? ⟨w.heap.size + 1, 2, none⟩ = some (.slice (some ⟨bb, ob, none⟩) b.ks.length cb)) ∧ ((w'.cell? ⟨ba, oa + m * 3, none⟩ = some (.int .i64 qa.k) ∧ w'.cell? ⟨ba, oa + m * 3 + 1, none⟩ = some (.int .i64 qa.i) ∧ w'.cell? ⟨ba, oa + m * 3 + 2, none⟩ = some (.slice Aa qa.ks.length ka)) ∧ ((w'.cell? ⟨bb, ob + m * 3, none⟩ = some (.int .i64 qb.k) ∧ w'.cell? ⟨bb, ob + m * 3 + 1, none⟩ = some (.int .i64 qb.i) ∧ w'.cell? ⟨bb, ob + m * 3 + 2, none⟩ = some (.slice Ab qb.ks.length kb)) ∧ ((w'.cell? ⟨w.heap.size + 2, 0, none⟩ = some (.int .i64 t.k) ∧ w'.cell? ⟨w.heap.size + 2, 1, none⟩ = some (.int .i64 t.i) ∧ w'.cell? ⟨w.heap.size + 2, 2, none⟩ = some (.slice T t.ks.length ct)) ∧ (w'.cell? ⟨w.heap.size + 3, 0, none⟩ = some (.int .i64 u.k) ∧ w'.cell? ⟨w.heap.size + 3, 1, none⟩ = some (.int .i64 u.i) ∧ w'.cell? ⟨w.heap.size + 3, 2, none⟩ = some (.slice U u.ks.length cu))))))
                      (exact SS.out _ BB)
                      (first
                        | (go_at_call 43; refine (IH.out qa qb Aa Ab T U ka kb ct cu mm _ (by omega) (KA.out.keep ((Below.refl _ _).drew) (Nat.le_refl _)) (KB.out.keep ((Below.refl _ _).drew) (Nat.le_refl _)) ((E5.out.keep ((Below.refl _ _).drew)).tree (w.heap.size + 2) t T ct (by simp)) ((E5.out.keep ((Below.refl _ _).drew)).tree (w.heap.size + 3) u U cu (by simp))).mono ?_; rintro e w6 ⟨rfl, hb6⟩; replace BB := BB.trans (hb6.mono BB.size); clear hb6))
                    have E6 := Lib.hid ((E5.out.keep ((Below.refl _ _).drew)).keep BB)
                    rw [AL.out, Bool.true_and] at TK
                    cases hr : swpT t u own qa qb mm with
                    | true =>
                      rw [hr] at TK
                      go_wp2_with fail
                      go_roundw
                      case rel => exact ⟨m + 1, by omega, by go_num, TK.out, E6.out⟩
                      case measure => simp [intOf]; omega
                    | false =>
                      have F := Lib.hid (FF.out hr)
                      go_wp2_with fail
                      go_ret
                      exact ⟨by rw [SE.out, F.out]; rfl, E6.out.below⟩
                  · obtain rfl : m = a.ks.length := by omega
                    have F := Lib.hid (show swpL t u own a.ks b.ks mm = true by have := AL.out; rw [List.take_length, HN.out, List.take_length] at this; exact this)
                    go_wp2_with fail
                    go_ret
                    exact ⟨by rw [SE.out, F.out]; rfl, E5.out.below⟩
end Go.Proofs.Ytmmdhlemkcddmaa
namespace Go.Proofs.Ytmmdhlemkcddmaa
open Go.RowKit
set_option linter.unusedVariables false
set_option linter.unusedSimpArgs false
/-- of each its sort -/
def sortsB (ks : List Tr) (cs : List Bool) : Bool := (List.range ks.length).all fun j => termB (ks.getD j default).k == cs.getD j false
def sortedN (ks : List Tr) (cs : List Bool) : Nat := if firstL ks ≠ 0 then firstL ks else if sortsB ks cs = true then 0 else 40
theorem sortsB_true {ks : List Tr} {cs : List Bool} (h : ∀ j, j < ks.length → termB (ks.getD j default).k = cs.getD j false) : sortsB ks cs = true := by
  unfold sortsB
  rw [List.all_eq_true]
  intro j hj
  rw [h j (List.mem_range.1 hj)]
  exact beq_self_eq_true _
theorem sortsB_false {ks : List Tr} {cs : List Bool} {m : Nat} (hm : m < ks.length) (h : termB (ks.getD m default).k ≠ cs.getD m false) : sortsB ks cs = false := by
  cases e : sortsB ks cs with
  | false => rfl
  | true =>
    unfold sortsB at e
    rw [List.all_eq_true] at e
    have := e m (List.mem_range.2 hm)
    simp at this
    exact absurd (by simpa using this) h
theorem firstL_done {ks : List Tr} (h : firstL ks = firstL (ks.drop ks.length)) : firstL ks = 0 := by rw [h]; simp [firstL]
theorem firstL_zero : ∀ {ks : List Tr}, firstL ks = 0 → ∀ q ∈ ks, rightN q = 0
  | [], _, q, hq => by simp at hq
  | t :: r, h, q, hq => by
    simp only [firstL] at h
    by_cases ht : rightN t = 0
    · rw [if_neg (by simp [ht])] at h
      rcases List.mem_cons.1 hq with rfl | hq
      · exact ht
      · exact firstL_zero h q hq
    · rw [if_pos ht] at h
      exact absurd h ht
theorem getD_at (ks : List Tr) (m : Nat) (h : m < ks.length) : ks.getD m default = ks[m] := by simp [List.getD_eq_getElem?_getD, h]
/-- a string that names sorts -/
def Names (s : ByteArray) (cs : List Bool) : Prop := ∀ m (h : m < s.size), ((s[m].toNat : Int) == 116) = cs.getD m false
set_option maxHeartbeats 2000000 in
set_option maxRecDepth 100000 in
theorem rsorted_any (l : Tr) (A : Option Addr) (c : Nat) (s : ByteArray) (cs : List Bool) (w : World) (hl : IsT w w.heap.size l A c) (hs : s.size = l.ks.length) (hn : Names s cs) :
    Calls Try.prog 42 #[.slice A l.ks.length c, .string s] w fun e w' => e = .returned (.int .i64 (sortedN l.ks cs : Nat)) ∧ Below w.heap.size w w' := by
  have HT := Lib.hid hl
  have hl1 := hl.len
  have HS := Lib.hid hs
  have HN := Lib.hid hn
  clear hl hs hn
  go_enter Try.func42, Try.ntmps42
  go_wp2_with fail
  go_loopw [11] (fun i wr => ∃ m : Nat, m ≤ l.ks.length ∧ i = .int .i64 m ∧ firstL l.ks = firstL (l.ks.drop m) ∧ Below w.heap.size w wr) (fun i _ => l.ks.length - (intOf i).toNat)
  case atStart => exact ⟨0, Nat.zero_le _, rfl, by simp, Below.refl _ _⟩
  case round =>
    obtain ⟨m, hm', rfl, hf, hbr⟩ := hrel
    have HF := Lib.hid hf
    clear hf
    by_cases hlt : m < l.ks.length
    · obtain ⟨b, o, A', c', rfl, hlt', p0, p1, p2, hk⟩ := HT.out.kid m hlt
      have S := Lib.hid (firstL_skip l.ks m hlt HF.out)
      have Z := Lib.hid (firstL_hit l.ks m hlt HF.out)
      obtain ⟨q, hq⟩ : ∃ q, q = l.ks[m] := ⟨_, rfl⟩
      rw [← hq] at p0 p1 p2 hk S Z
      clear hq
      have e0 := (hbr.cell hlt').trans p0
      have e1 := (hbr.cell hlt').trans p1
      have e2 := (hbr.cell hlt').trans p2
      have E1 := Lib.hid (env1 (hk.keep hbr hbr.size))
      clear p0 p1 p2 hk
      go_wp2_with fail
      refine (rright_any q A' c' _ (by exact E1.out.tree wr.heap.size q A' c' (by simp))).mono ?_
      rintro e w1 ⟨rfl, hb1⟩
      have E2 := Lib.hid (E1.out.keep hb1)
      clear hb1 e0 e1 e2 E1
      obtain ⟨z0, z1, z2⟩ := E2.out.cells wr.heap.size q A' c' (by simp)
      by_cases hr : rightN q = 0
      · have h1 : ((rightN q : Int) != 0) = false := by simpa using hr
        have S2 := Lib.hid (S.out hr)
        clear hr
        go_wp2_with fail
        go_roundw
        case rel => exact ⟨m + 1, by omega, by go_num, S2.out, hbr.trans (E2.out.below.mono hbr.size)⟩
        case measure => simp [intOf]; omega
      · have h1 : ((rightN q : Int) != 0) = true := by rw [bne_iff_ne]; omega
        have F := Lib.hid (show sortedN l.ks cs = rightN q by unfold sortedN; rw [Z.out hr, if_pos hr])
        clear hr
        go_wp2_with fail
        refine (rright_any q A' c' _ (by exact E2.out.tree wr.heap.size q A' c' (by simp))).mono ?_
        rintro e w2 ⟨rfl, hb2⟩
        have E3 := Lib.hid (E2.out.keep hb2)
        clear hb2
        go_wp2_with fail
        go_ret
        exact ⟨by rw [F.out]; rfl, hbr.trans (E3.out.below.mono hbr.size)⟩
    · obtain rfl : m = l.ks.length := by omega
      have F0 := Lib.hid (firstL_done HF.out)
      have HB := Lib.hid hbr
      go_wp2_with fail
      clear hbr
      go_loopw [23] (fun i wx => ∃ m : Nat, m ≤ l.ks.length ∧ i = .int .i64 m ∧ (∀ j, j < m → termB (l.ks.getD j default).k = cs.getD j false) ∧ Below w.heap.size w wx) (fun i _ => l.ks.length - (intOf i).toNat)
      case atStart => exact ⟨0, Nat.zero_le _, rfl, by intro j hj; omega, HB.out⟩
      case round =>
        obtain ⟨m, hm', rfl, hall, hbr⟩ := hrel
        have AL := Lib.hid hall
        clear hall
        by_cases hlt : m < l.ks.length
        · obtain ⟨b, o, A', c', rfl, hlt', p0, p1, p2, hk⟩ := HT.out.kid m hlt
          have GA := Lib.hid (getD_at l.ks m hlt)
          have SF := Lib.hid (fun h => sortsB_false (cs := cs) hlt h)
          have hsz : m < s.size := by rw [HS.out]; exact hlt
          have NM := Lib.hid (HN.out m hsz)
          obtain ⟨q, hq⟩ : ∃ q, q = l.ks[m] := ⟨_, rfl⟩
          rw [← hq] at p0 p1 p2 hk GA
          rw [GA.out] at SF
          clear hq
          have e0 := (hbr.cell hlt').trans p0
          have e1 := (hbr.cell hlt').trans p1
          have e2 := (hbr.cell hlt').trans p2
          have E1 := Lib.hid (env1 (hk.keep hbr hbr.size))
          clear p0 p1 p2 hk
          obtain ⟨x, hx⟩ : ∃ x, ((s[m].toNat : Int) == 116) = x := ⟨_, rfl⟩
          obtain ⟨y, hy0⟩ : ∃ y, termB q.k = y := ⟨_, rfl⟩
          rw [hx] at NM
          cases x <;> cases y
          · go_wp2_with fail
            clear e0 e1 e2
            have E2 := Lib.hid (E1.out.keep ((Below.refl _ _).drew))
            have BB : Below _ _ _ := Below.refl ((wr.alloc (.cells #[.int .i64 q.k, .int .i64 q.i, .slice A' q.ks.length c'] 24)).drew.heap.size) ((wr.alloc (.cells #[.int .i64 q.k, .int .i64 q.i, .slice A' q.ks.length c'] 24)).drew)
            have hm0 : (0 : Int) ≤ (m : Int) := by omega
            have hm1 : (m : Int) < (s.size : Int) := by omega
            go_region_held3 (fun w' => w'.cell? ⟨wr.heap.size, 0, none⟩ = some (.int .i64 q.k) ∧ w'.cell? ⟨wr.heap.size, 1, none⟩ = some (.int .i64 q.i) ∧ w'.cell? ⟨wr.heap.size, 2, none⟩ = some (.slice A' q.ks.length c'))
              (exact (E2.out.keep BB).cells wr.heap.size q A' c' (by simp))
              (first
                | (go_at_call 44; refine (term_any q.k q.i A' q.ks.length c' _).mono ?_; rintro e w6 ⟨rfl, hb6⟩; replace BB := BB.trans (hb6.mono BB.size); clear hb6))
            all_goals
              have E3 := Lib.hid (E2.out.keep BB)
              have AL2 := Lib.hid (show termB q.k = cs.getD m false → ∀ j, j < m + 1 → termB (l.ks.getD j default).k = cs.getD j false from fun ht j hj => by
                rcases Nat.lt_or_ge j m with h | h
                · exact AL.out j h
                · obtain rfl : j = m := by omega
                  rw [GA.out]; exact ht)
              have F := Lib.hid (show termB q.k ≠ cs.getD m false → sortedN l.ks cs = 40 from fun ht => by unfold sortedN; rw [if_neg (by rw [F0.out]; simp), SF.out ht]; simp)
              rw [hy0, ← NM.out] at F AL2
              go_wp2_with fail
              go_roundw
              case rel => exact ⟨m + 1, by omega, by go_num, AL2.out rfl, hbr.trans (E3.out.below.mono hbr.size)⟩
              case measure => simp [intOf]; omega
          · go_wp2_with fail
            clear e0 e1 e2
            have E2 := Lib.hid (E1.out.keep ((Below.refl _ _).drew))
            have BB : Below _ _ _ := Below.refl ((wr.alloc (.cells #[.int .i64 q.k, .int .i64 q.i, .slice A' q.ks.length c'] 24)).drew.heap.size) ((wr.alloc (.cells #[.int .i64 q.k, .int .i64 q.i, .slice A' q.ks.length c'] 24)).drew)
            have hm0 : (0 : Int) ≤ (m : Int) := by omega
            have hm1 : (m : Int) < (s.size : Int) := by omega
            go_region_held3 (fun w' => w'.cell? ⟨wr.heap.size, 0, none⟩ = some (.int .i64 q.k) ∧ w'.cell? ⟨wr.heap.size, 1, none⟩ = some (.int .i64 q.i) ∧ w'.cell? ⟨wr.heap.size, 2, none⟩ = some (.slice A' q.ks.length c'))
              (exact (E2.out.keep BB).cells wr.heap.size q A' c' (by simp))
              (first
                | (go_at_call 44; refine (term_any q.k q.i A' q.ks.length c' _).mono ?_; rintro e w6 ⟨rfl, hb6⟩; replace BB := BB.trans (hb6.mono BB.size); clear hb6))
            all_goals
              have E3 := Lib.hid (E2.out.keep BB)
              have AL2 := Lib.hid (show termB q.k = cs.getD m false → ∀ j, j < m + 1 → termB (l.ks.getD j default).k = cs.getD j false from fun ht j hj => by
                rcases Nat.lt_or_ge j m with h | h
                · exact AL.out j h
                · obtain rfl : j = m := by omega
                  rw [GA.out]; exact ht)
              have F := Lib.hid (show termB q.k ≠ cs.getD m false → sortedN l.ks cs = 40 from fun ht => by unfold sortedN; rw [if_neg (by rw [F0.out]; simp), SF.out ht]; simp)
              rw [hy0, ← NM.out] at F AL2
              go_wp2_with fail
              go_ret
              exact ⟨by rw [F.out (by simp)]; rfl, hbr.trans (E3.out.below.mono hbr.size)⟩
          · go_wp2_with fail
            clear e0 e1 e2
            have E2 := Lib.hid (E1.out.keep ((Below.refl _ _).drew))
            have BB : Below _ _ _ := Below.refl ((wr.alloc (.cells #[.int .i64 q.k, .int .i64 q.i, .slice A' q.ks.length c'] 24)).drew.heap.size) ((wr.alloc (.cells #[.int .i64 q.k, .int .i64 q.i, .slice A' q.ks.length c'] 24)).drew)
            have hm0 : (0 : Int) ≤ (m : Int) := by omega
            have hm1 : (m : Int) < (s.size : Int) := by omega
            go_region_held3 (fun w' => w'.cell? ⟨wr.heap.size, 0, none⟩ = some (.int .i64 q.k) ∧ w'.cell? ⟨wr.heap.size, 1, none⟩ = some (.int .i64 q.i) ∧ w'.cell? ⟨wr.heap.size, 2, none⟩ = some (.slice A' q.ks.length c'))
              (exact (E2.out.keep BB).cells wr.heap.size q A' c' (by simp))
              (first
                | (go_at_call 44; refine (term_any q.k q.i A' q.ks.length c' _).mono ?_; rintro e w6 ⟨rfl, hb6⟩; replace BB := BB.trans (hb6.mono BB.size); clear hb6))
            all_goals
              have E3 := Lib.hid (E2.out.keep BB)
              have AL2 := Lib.hid (show termB q.k = cs.getD m false → ∀ j, j < m + 1 → termB (l.ks.getD j default).k = cs.getD j false from fun ht j hj => by
                rcases Nat.lt_or_ge j m with h | h
                · exact AL.out j h
                · obtain rfl : j = m := by omega
                  rw [GA.out]; exact ht)
              have F := Lib.hid (show termB q.k ≠ cs.getD m false → sortedN l.ks cs = 40 from fun ht => by unfold sortedN; rw [if_neg (by rw [F0.out]; simp), SF.out ht]; simp)
              rw [hy0, ← NM.out] at F AL2
              go_wp2_with fail
              go_ret
              exact ⟨by rw [F.out (by simp)]; rfl, hbr.trans (E3.out.below.mono hbr.size)⟩
          · go_wp2_with fail
            clear e0 e1 e2
            have E2 := Lib.hid (E1.out.keep ((Below.refl _ _).drew))
            have BB : Below _ _ _ := Below.refl ((wr.alloc (.cells #[.int .i64 q.k, .int .i64 q.i, .slice A' q.ks.length c'] 24)).drew.heap.size) ((wr.alloc (.cells #[.int .i64 q.k, .int .i64 q.i, .slice A' q.ks.length c'] 24)).drew)
            have hm0 : (0 : Int) ≤ (m : Int) := by omega
            have hm1 : (m : Int) < (s.size : Int) := by omega
            go_region_held3 (fun w' => w'.cell? ⟨wr.heap.size, 0, none⟩ = some (.int .i64 q.k) ∧ w'.cell? ⟨wr.heap.size, 1, none⟩ = some (.int .i64 q.i) ∧ w'.cell? ⟨wr.heap.size, 2, none⟩ = some (.slice A' q.ks.length c'))
              (exact (E2.out.keep BB).cells wr.heap.size q A' c' (by simp))
              (first
                | (go_at_call 44; refine (term_any q.k q.i A' q.ks.length c' _).mono ?_; rintro e w6 ⟨rfl, hb6⟩; replace BB := BB.trans (hb6.mono BB.size); clear hb6))
            all_goals
              have E3 := Lib.hid (E2.out.keep BB)
              have AL2 := Lib.hid (show termB q.k = cs.getD m false → ∀ j, j < m + 1 → termB (l.ks.getD j default).k = cs.getD j false from fun ht j hj => by
                rcases Nat.lt_or_ge j m with h | h
                · exact AL.out j h
                · obtain rfl : j = m := by omega
                  rw [GA.out]; exact ht)
              have F := Lib.hid (show termB q.k ≠ cs.getD m false → sortedN l.ks cs = 40 from fun ht => by unfold sortedN; rw [if_neg (by rw [F0.out]; simp), SF.out ht]; simp)
              rw [hy0, ← NM.out] at F AL2
              go_wp2_with fail
              go_roundw
              case rel => exact ⟨m + 1, by omega, by go_num, AL2.out rfl, hbr.trans (E3.out.below.mono hbr.size)⟩
              case measure => simp [intOf]; omega
        · obtain rfl : m = l.ks.length := by omega
          have F := Lib.hid (show sortedN l.ks cs = 0 by unfold sortedN; rw [if_neg (by rw [F0.out]; simp), if_pos (sortsB_true AL.out)])
          go_wp2_with fail
          go_ret
          exact ⟨by rw [F.out]; rfl, hbr⟩
end Go.Proofs.Ytmmdhlemkcddmaa
namespace Go.Proofs.Ytmmdhlemkcddmaa
open Go.RowKit
set_option linter.unusedVariables false
set_option linter.unusedSimpArgs false
set_option maxHeartbeats 1000000 in
theorem sHead_any (a b : Tr) (A B : Option Addr) (ca cb : Nat) (w : World) (ha : IsT w w.heap.size a A ca) (hb : IsT w w.heap.size b B cb) :
    Calls Try.prog 122 #[.agg #[.int .i64 a.k, .int .i64 a.i, .slice A a.ks.length ca], .agg #[.int .i64 b.k, .int .i64 b.i, .slice B b.ks.length cb]] w fun e w' => e = .returned (.bool (headB a b)) ∧ Below w.heap.size w w' := by
  have E1 := Lib.hid (env2 ha hb)
  obtain ⟨a0, a1, a2⟩ := E1.out.cells w.heap.size a A ca (by simp)
  obtain ⟨b0, b1, b2⟩ := E1.out.cells (w.heap.size + 1) b B cb (by simp)
  clear ha hb
  by_cases hk : a.k = b.k
  · have hk' : (a.k == b.k) = true := by simp [hk]
    by_cases hi : a.i = b.i
    · have hi' : (a.i == b.i) = true := by simp [hi]
      by_cases hn : a.ks.length = b.ks.length
      · have hn' : ((a.ks.length : Int) == (b.ks.length : Int)) = true := by simp [hn]
        have HB := Lib.hid (show headB a b = true from headB_iff.2 ⟨hk, hi, hn⟩)
        clear hk hi hn
        go_enter Try.func122, Try.ntmps122
        go_wp2_with fail
        go_ret
        exact ⟨by rw [HB.out]; rfl, E1.out.below⟩
      · have hn' : ((a.ks.length : Int) == (b.ks.length : Int)) = false := by rw [beq_eq_false_iff_ne]; omega
        have HB := Lib.hid (show headB a b = false from decide_eq_false fun h => hn h.2.2)
        clear hk hi hn
        go_enter Try.func122, Try.ntmps122
        go_wp2_with fail
        go_ret
        exact ⟨by rw [HB.out]; rfl, E1.out.below⟩
    · have hi' : (a.i == b.i) = false := by rw [beq_eq_false_iff_ne]; exact hi
      have HB := Lib.hid (show headB a b = false from decide_eq_false fun h => hi h.2.1)
      clear hk hi
      go_enter Try.func122, Try.ntmps122
      go_wp2_with fail
      go_ret
      exact ⟨by rw [HB.out]; rfl, E1.out.below⟩
  · have hk' : (a.k == b.k) = false := by rw [beq_eq_false_iff_ne]; exact hk
    have HB := Lib.hid (show headB a b = false from decide_eq_false fun h => hk h.1)
    clear hk
    go_enter Try.func122, Try.ntmps122
    go_wp2_with fail
    go_ret
    exact ⟨by rw [HB.out]; rfl, E1.out.below⟩
set_option maxHeartbeats 400000 in
theorem hIsQuant_any (k i : Int) (A : Option Addr) (n c : Nat) (w : World) :
    Calls Try.prog 124 #[.agg #[.int .i64 k, .int .i64 i, .slice A n c]] w fun e w' => e = .returned (.bool (decide (k = 7 ∨ k = 10))) ∧ Below w.heap.size w w' := by
  have hb : Below w.heap.size w (w.alloc (.cells #[.int .i64 k, .int .i64 i, .slice A n c] 24)) := (Below.refl _ _).alloc (Nat.le_refl _) _
  by_cases h1 : k = 7
  · subst h1
    go_enter Try.func124, Try.ntmps124
    go_wp2
    go_ret
    exact ⟨rfl, hb⟩
  · have h1' : (k == 7) = false := by simpa using h1
    by_cases h2 : k = 10
    · subst h2
      go_enter Try.func124, Try.ntmps124
      go_wp2
      go_ret
      exact ⟨rfl, hb⟩
    · have h2' : (k == 10) = false := by simpa using h2
      have T := Lib.hid (show decide (k = 7 ∨ k = 10) = false by simp [h1, h2])
      go_enter Try.func124, Try.ntmps124
      go_wp2
      go_ret
      exact ⟨by rw [T.out]; rfl, hb⟩
/-! ### listFault and the search for what is not right -/
set_option maxHeartbeats 400000 in
theorem lfault1_any (t : Tr) (A : Option Addr) (c : Nat) (w : World) (ht : IsT w w.heap.size t A c) :
    Calls Try.prog 83 #[.agg #[.int .i64 t.k, .int .i64 t.i, .slice A t.ks.length c]] w fun e w' => e = .returned (.bool (!decide (rightN t = 0))) ∧ Below w.heap.size w w' := by
  have E1 := Lib.hid (env1 ht)
  obtain ⟨a0, a1, a2⟩ := E1.out.cells w.heap.size t A c (by simp)
  clear ht
  go_enter Try.func83, Try.ntmps83
  go_wp2_with fail
  refine (right_any t A c _ (by exact E1.out.tree w.heap.size t A c (by simp))).mono ?_
  rintro e w1 ⟨rfl, hb1⟩
  have E2 := Lib.hid (E1.out.keep hb1)
  clear hb1
  by_cases hr : rightN t = 0
  · have h1 : ((rightN t : Int) != 0) = false := by simpa using hr
    have D := Lib.hid (decide_eq_true hr)
    clear hr
    go_wp2_with fail
    go_ret
    exact ⟨by rw [D.out]; rfl, E2.out.below⟩
  · have h1 : ((rightN t : Int) != 0) = true := by rw [bne_iff_ne]; omega
    have D := Lib.hid (decide_eq_false hr)
    clear hr
    go_wp2_with fail
    go_ret
    exact ⟨by rw [D.out]; rfl, E2.out.below⟩
/-- what the search finds: the first that is not right -/
def SeaP (w : World) (l : Tr) (e : Ending) (w' : World) : Prop :=
  Below w.heap.size w w' ∧ ((firstL l.ks = 0 ∧ e = .returned (.tuple #[.agg #[.int .i64 0, .int .i64 0, .slice none 0 0], .bool false])) ∨
    ∃ q A' c', firstL l.ks = rightN q ∧ rightN q ≠ 0 ∧ IsT w w.heap.size q A' c' ∧ e = .returned (.tuple #[.agg #[.int .i64 q.k, .int .i64 q.i, .slice A' q.ks.length c'], .bool true]))
set_option maxHeartbeats 2000000 in
theorem search_any (l : Tr) (A : Option Addr) (c : Nat) (w : World) (hl : IsT w w.heap.size l A c) :
    Calls Try.prog 82 #[.slice A l.ks.length c, .func (.func 83) #[] #[]] w (SeaP w l) := by
  have HT := Lib.hid hl
  have hl1 := hl.len
  have N0 := Lib.hid (Box3.new w (.int .i64 0) (.int .i64 0) (.slice none 0 0))
  have B0 := Lib.hid (alB w (.cells #[.int .i64 0, .int .i64 0, .slice none 0 0] 24))
  clear hl
  go_enter Try.func82, Try.ntmps82
  go_wp2_with fail
  go_loopw [11] (fun i wr => ∃ m : Nat, m ≤ l.ks.length ∧ i = .int .i64 m ∧ firstL l.ks = firstL (l.ks.drop m) ∧ Below w.heap.size w wr ∧ Box3 wr w.heap.size (.int .i64 0) (.int .i64 0) (.slice none 0 0)) (fun i _ => l.ks.length - (intOf i).toNat)
  case atStart => exact ⟨0, Nat.zero_le _, rfl, by simp, B0.out, N0.out⟩
  case round =>
    obtain ⟨m, hm', rfl, hf, hbr, hnb⟩ := hrel
    have HF := Lib.hid hf
    have NB := Lib.hid hnb
    clear hf
    by_cases hlt : m < l.ks.length
    · obtain ⟨b, o, A', c', rfl, hlt', p0, p1, p2, hk⟩ := HT.out.kid m hlt
      have S := Lib.hid (firstL_skip l.ks m hlt HF.out)
      have Z := Lib.hid (firstL_hit l.ks m hlt HF.out)
      obtain ⟨q, hq⟩ : ∃ q, q = l.ks[m] := ⟨_, rfl⟩
      rw [← hq] at p0 p1 p2 hk S Z
      clear hq
      have e0 := (hbr.cell hlt').trans p0
      have e1 := (hbr.cell hlt').trans p1
      have e2 := (hbr.cell hlt').trans p2
      have HK := Lib.hid hk
      have E1 := Lib.hid (env1 (hk.keep hbr hbr.size))
      have hsz := hnb.lt
      have N1 := Lib.hid (hnb.keep (alB wr (.cells #[.int .i64 q.k, .int .i64 q.i, .slice A' q.ks.length c'] 24)) hsz)
      clear p0 p1 p2 hk hnb
      go_wp2_with fail
      refine (lfault1_any q A' c' _ (by exact E1.out.tree wr.heap.size q A' c' (by simp))).mono ?_
      rintro e w1 ⟨rfl, hb1⟩
      have E2 := Lib.hid (E1.out.keep hb1)
      have N2 := Lib.hid (N1.out.keep hb1 N1.out.lt)
      have B2 := Lib.hid (hbr.trans (E2.out.below.mono hbr.size))
      clear hb1 e0 e1 e2 E1 N1
      obtain ⟨z0, z1, z2⟩ := E2.out.cells wr.heap.size q A' c' (by simp)
      by_cases hr : rightN q = 0
      · have S2 := Lib.hid (S.out hr)
        rw [decide_eq_true hr]
        clear hr
        go_wp2_with fail
        go_roundw
        case rel => exact ⟨m + 1, by omega, by go_num, S2.out, B2.out, N2.out⟩
        case measure => simp [intOf]; omega
      · have HR := Lib.hid hr
        have G := Lib.hid (Z.out hr)
        rw [decide_eq_false hr]
        clear hr
        have f0 := N2.out.frozen 0
        have f1 := N2.out.frozen 1
        have f2 := N2.out.frozen 2
        obtain ⟨n0, n1, n2⟩ := N2.out.cells
        go_wp2_with fail
        obtain ⟨x0, x1, x2⟩ := (N2.out.setall (.int .i64 q.k) (.int .i64 q.i) (.slice A' q.ks.length c')).cells
        exact bodyPost_ret (v := .tuple #[.agg #[.int .i64 q.k, .int .i64 q.i, .slice A' q.ks.length c'], .bool true]) (by simp [results, Try.results82, go_sem, x0, x1, x2]) rfl ⟨below_set3 B2.out _ _ _ (Nat.le_refl _), .inr ⟨q, A', c', G.out, HR.out, HK.out, rfl⟩⟩
    · obtain rfl : m = l.ks.length := by omega
      have F := Lib.hid (firstL_done HF.out)
      have N1 := Lib.hid (hnb.keep (alB wr (.cells #[.int .i64 0, .int .i64 0, .slice none 0 0] 24)) hnb.lt)
      have B1 := Lib.hid (hbr.trans ((alB wr (.cells #[.int .i64 0, .int .i64 0, .slice none 0 0] 24)).mono hbr.size))
      have f0 := N1.out.frozen 0
      have f1 := N1.out.frozen 1
      have f2 := N1.out.frozen 2
      obtain ⟨n0, n1, n2⟩ := N1.out.cells
      go_wp2_with fail
      obtain ⟨x0, x1, x2⟩ := (N1.out.setall (.int .i64 0) (.int .i64 0) (.slice none 0 0)).cells
      exact bodyPost_ret (v := .tuple #[.agg #[.int .i64 0, .int .i64 0, .slice none 0 0], .bool false]) (by simp [results, Try.results82, go_sem, x0, x1, x2]) rfl ⟨below_set3 B1.out _ _ _ (Nat.le_refl _), .inl ⟨F.out, rfl⟩⟩
/-- a list of functions that tell sorts, in memory: true: a term is wanted -/
def sortV : Bool → Value
  | true => .func (.func 39) #[] #[]
  | false => .func (.func 38) #[] #[]
def SortsAt (w : World) (B : Nat) (A : Option Addr) (cs : List Bool) : Prop := ∀ j (h : j < cs.length), ∃ b o, A = some ⟨b, o, none⟩ ∧ b < B ∧ w.cell? ⟨b, o + j, none⟩ = some (sortV cs[j])
theorem isTB_right {t : Tr} (h : rightN t = 0) : isTB t = termB t.k := by
  unfold isTB
  rw [decide_eq_true h, Bool.and_true, Bool.eq_iff_iff, decide_eq_true_iff]
  exact sort_term t.k
set_option maxHeartbeats 2000000 in
set_option maxRecDepth 100000 in
theorem listFault_any (l : Tr) (A S : Option Addr) (c sc : Nat) (cs : List Bool) (w : World) (hl : IsT w w.heap.size l A c) (hn : cs.length = l.ks.length) (hS : SortsAt w w.heap.size S cs) :
    Calls Try.prog 40 #[.slice A l.ks.length c, .slice S cs.length sc] w fun e w' => e = .returned (.int .i64 (sortedN l.ks cs : Nat)) ∧ Below w.heap.size w w' := by
  have HT := Lib.hid hl
  have hl1 := hl.len
  have HN := Lib.hid hn
  have HS := Lib.hid hS
  clear hl hn hS
  go_enter Try.func40, Try.ntmps40
  go_wp2_with fail
  refine (search_any l A c _ (by exact HT.out)).mono ?_
  rintro e w1 ⟨hb1, hcase⟩
  rcases hcase with ⟨h0, rfl⟩ | ⟨q, A', c', hq, hr, hqT, rfl⟩
  · have F0 := Lib.hid h0
    have B1 := Lib.hid (hb1.trans ((alB w1 (.cells #[.int .i64 0, .int .i64 0, .slice none 0 0] 24)).mono hb1.size))
    clear hb1 h0
    go_wp2_with fail
    go_loopw [19] (fun i wx => ∃ m : Nat, m ≤ l.ks.length ∧ i = .int .i64 m ∧ (∀ j, j < m → termB (l.ks.getD j default).k = cs.getD j false) ∧ Below w.heap.size w wx) (fun i _ => l.ks.length - (intOf i).toNat)
    case atStart => exact ⟨0, Nat.zero_le _, rfl, by intro j hj; omega, B1.out⟩
    case round =>
      obtain ⟨m, hm', rfl, hall, hbr⟩ := hrel
      have AL := Lib.hid hall
      clear hall
      by_cases hlt : m < l.ks.length
      · obtain ⟨b, o, A', c', rfl, hlt', p0, p1, p2, hk⟩ := HT.out.kid m hlt
        have GA := Lib.hid (getD_at l.ks m hlt)
        have SF := Lib.hid (fun h => sortsB_false (cs := cs) hlt h)
        have hsz : m < cs.length := by rw [HN.out]; exact hlt
        obtain ⟨sb, so, rfl, hsl, s0⟩ := HS.out m hsz
        have CG := Lib.hid (show cs.getD m false = cs[m] by simp [List.getD_eq_getElem?_getD, hsz])
        have RQ := Lib.hid (show rightN l.ks[m] = 0 from firstL_zero F0.out l.ks[m] (List.getElem_mem hlt))
        obtain ⟨q, hq⟩ : ∃ q, q = l.ks[m] := ⟨_, rfl⟩
        rw [← hq] at p0 p1 p2 hk GA RQ
        rw [GA.out] at SF
        clear hq
        have e0 := (hbr.cell hlt').trans p0
        have e1 := (hbr.cell hlt').trans p1
        have e2 := (hbr.cell hlt').trans p2
        have E1 := Lib.hid (env1 (hk.keep hbr hbr.size))
        have hsr : sb < wr.heap.size := Nat.lt_of_lt_of_le hsl hbr.size
        have s1 := (hbr.cell hsl).trans s0
        have S2 := Lib.hid s1
        clear p0 p1 p2 hk s0 s1
        go_wp2_with fail
        clear e0 e1 e2
        have E2 := Lib.hid (E1.out.keep ((Below.refl _ _).drew))
        have BB : Below _ _ _ := Below.refl ((wr.alloc (.cells #[.int .i64 q.k, .int .i64 q.i, .slice A' q.ks.length c'] 24)).drew.heap.size) ((wr.alloc (.cells #[.int .i64 q.k, .int .i64 q.i, .slice A' q.ks.length c'] 24)).drew)
        have SX := Lib.hid (show ((wr.alloc (.cells #[.int .i64 q.k, .int .i64 q.i, .slice A' q.ks.length c'] 24)).drew).cell? ⟨sb, so + m, none⟩ = some (sortV cs[m]) from ((alB wr _).cell (p := ⟨sb, so + m, none⟩) hsr).trans S2.out)
        have hm0 : (0 : Int) ≤ (m : Int) := by omega
        have hm1 : (m : Int) < (cs.length : Int) := by omega
        have hsx : sb < (wr.alloc (.cells #[.int .i64 q.k, .int .i64 q.i, .slice A' q.ks.length c'] 24)).drew.heap.size := by show sb < (wr.alloc _).heap.size; simp; omega
        cases hc : cs[m] with
        | true =>
          rw [hc] at SX CG
          go_region_held3 (fun w' => w'.cell? ⟨sb, so + m, none⟩ = some (.func (.func 39) #[] #[]) ∧ (w'.cell? ⟨wr.heap.size, 0, none⟩ = some (.int .i64 q.k) ∧ w'.cell? ⟨wr.heap.size, 1, none⟩ = some (.int .i64 q.i) ∧ w'.cell? ⟨wr.heap.size, 2, none⟩ = some (.slice A' q.ks.length c')))
            (exact ⟨(BB.cell (p := ⟨sb, so + m, none⟩) hsx).trans SX.out, (E2.out.keep BB).cells wr.heap.size q A' c' (by simp)⟩)
            (first
              | (go_at_call 39; refine (isTerm_any q A' c' _ (E2.out.tree wr.heap.size q A' c' (by simp))).mono ?_; rintro e w6 ⟨rfl, hb6⟩; replace BB := BB.trans (hb6.mono BB.size); clear hb6))
          have E3 := Lib.hid (E2.out.keep BB)
          rw [isTB_right RQ.out]
          cases ht : termB q.k with
          | true =>
            have AL2 := Lib.hid (show ∀ j, j < m + 1 → termB (l.ks.getD j default).k = cs.getD j false from fun j hj => by
              rcases Nat.lt_or_ge j m with h | h
              · exact AL.out j h
              · obtain rfl : j = m := by omega
                rw [GA.out, CG.out]; exact ht)
            go_wp2_with fail
            go_roundw
            case rel => exact ⟨m + 1, by omega, by go_num, AL2.out, hbr.trans (E3.out.below.mono hbr.size)⟩
            case measure => simp [intOf]; omega
          | false =>
            have F := Lib.hid (show sortedN l.ks cs = 40 by unfold sortedN; rw [if_neg (by rw [F0.out]; simp), SF.out (by rw [CG.out, ht]; simp)]; simp)
            go_wp2_with fail
            go_ret
            exact ⟨by rw [F.out]; rfl, hbr.trans (E3.out.below.mono hbr.size)⟩
        | false =>
          rw [hc] at SX CG
          go_region_held3 (fun w' => w'.cell? ⟨sb, so + m, none⟩ = some (.func (.func 38) #[] #[]) ∧ (w'.cell? ⟨wr.heap.size, 0, none⟩ = some (.int .i64 q.k) ∧ w'.cell? ⟨wr.heap.size, 1, none⟩ = some (.int .i64 q.i) ∧ w'.cell? ⟨wr.heap.size, 2, none⟩ = some (.slice A' q.ks.length c')))
            (exact ⟨(BB.cell (p := ⟨sb, so + m, none⟩) hsx).trans SX.out, (E2.out.keep BB).cells wr.heap.size q A' c' (by simp)⟩)
            (first
              | (go_at_call 38; refine (isForm_any q A' c' _ (E2.out.tree wr.heap.size q A' c' (by simp))).mono ?_; rintro e w6 ⟨rfl, hb6⟩; replace BB := BB.trans (hb6.mono BB.size); clear hb6))
          have E3 := Lib.hid (E2.out.keep BB)
          rw [isFB_form RQ.out]
          cases ht : termB q.k with
          | false =>
            have AL2 := Lib.hid (show ∀ j, j < m + 1 → termB (l.ks.getD j default).k = cs.getD j false from fun j hj => by
              rcases Nat.lt_or_ge j m with h | h
              · exact AL.out j h
              · obtain rfl : j = m := by omega
                rw [GA.out, CG.out]; exact ht)
            go_wp2_with fail
            go_roundw
            case rel => exact ⟨m + 1, by omega, by go_num, AL2.out, hbr.trans (E3.out.below.mono hbr.size)⟩
            case measure => simp [intOf]; omega
          | true =>
            have F := Lib.hid (show sortedN l.ks cs = 40 by unfold sortedN; rw [if_neg (by rw [F0.out]; simp), SF.out (by rw [CG.out, ht]; simp)]; simp)
            go_wp2_with fail
            go_ret
            exact ⟨by rw [F.out]; rfl, hbr.trans (E3.out.below.mono hbr.size)⟩
      · obtain rfl : m = l.ks.length := by omega
        have F := Lib.hid (show sortedN l.ks cs = 0 by unfold sortedN; rw [if_neg (by rw [F0.out]; simp), if_pos (sortsB_true AL.out)])
        go_wp2_with fail
        go_ret
        exact ⟨by rw [F.out]; rfl, hbr⟩
  · have F := Lib.hid (show sortedN l.ks cs = rightN q by unfold sortedN; rw [hq, if_pos hr])
    have E1 := Lib.hid (env1 (hqT.keep hb1 hb1.size))
    obtain ⟨z0, z1, z2⟩ := E1.out.cells w1.heap.size q A' c' (by simp)
    have B1 := Lib.hid hb1
    clear hq hr hqT hb1
    go_wp2_with fail
    refine (right_any q A' c' _ (by exact E1.out.tree w1.heap.size q A' c' (by simp))).mono ?_
    rintro e w2 ⟨rfl, hb2⟩
    have E2 := Lib.hid (E1.out.keep hb2)
    clear hb2
    go_wp2_with fail
    go_ret
    exact ⟨by rw [F.out]; rfl, B1.out.trans (E2.out.below.mono B1.out.size)⟩
end Go.Proofs.Ytmmdhlemkcddmaa
namespace Go.Proofs.Ytmmdhlemkcddmaa
open Go.RowKit
set_option linter.unusedVariables false
set_option linter.unusedSimpArgs false
theorem same_right {a b : Tr} (ha : rightN a = 0) (hb : rightN b = 0) : sameB a b = decide (cmpT a b = 0) := by
  unfold sameB firstN
  rw [if_neg (by simp [ha]), decide_eq_true hb, Bool.true_and]
theorem swpL_no {t u : Tr} {own : Nat} {a b : Tr} (h : headB a b = true) : swpL t u own a.ks b.ks false = decide (cmpT a b = 0) := by
  have := swp_no t u own a b
  rw [swpT_eq] at this
  simpa [h] using this
/-- a swap in a box, two trees in boxes, two more beside -/
structure SW (w W : World) (a b t u : Tr) (own : Nat) (A B T U : Option Addr) (ca cb ct cu : Nat) : Prop where
  env : Env w W [(w.heap.size + 2, b, B, cb), (w.heap.size + 1, a, A, ca)]
  sw : W.heap[w.heap.size]? = some (.cells #[.int .i64 t.k, .int .i64 t.i, .slice T t.ks.length ct, .int .i64 u.k, .int .i64 u.i, .slice U u.ks.length cu, .int .u64 (own : Int)] 105 (0, 0))
  tt : IsT W W.heap.size t T ct
  tu : IsT W W.heap.size u U cu
theorem SW.keep {w W W' : World} {a b t u : Tr} {own : Nat} {A B T U : Option Addr} {ca cb ct cu : Nat} (h : SW w W a b t u own A B T U ca cb ct cu) (hb : Below W.heap.size W W') : SW w W' a b t u own A B T U ca cb ct cu :=
  ⟨h.env.keep hb, (hb.block _ (Array.getElem?_eq_some_iff.1 h.sw).1).trans h.sw, h.tt.keep hb hb.size, h.tu.keep hb hb.size⟩
theorem SW.cells {w W : World} {a b t u : Tr} {own : Nat} {A B T U : Option Addr} {ca cb ct cu : Nat} (h : SW w W a b t u own A B T U ca cb ct cu) :
    (W.cell? ⟨w.heap.size, 0, none⟩ = some (.int .i64 t.k) ∧ W.cell? ⟨w.heap.size, 1, none⟩ = some (.int .i64 t.i) ∧ W.cell? ⟨w.heap.size, 2, none⟩ = some (.slice T t.ks.length ct)) ∧
    (W.cell? ⟨w.heap.size, 3, none⟩ = some (.int .i64 u.k) ∧ W.cell? ⟨w.heap.size, 4, none⟩ = some (.int .i64 u.i) ∧ W.cell? ⟨w.heap.size, 5, none⟩ = some (.slice U u.ks.length cu)) ∧ W.cell? ⟨w.heap.size, 6, none⟩ = some (.int .u64 (own : Int)) := by
  have := h.sw
  simp [World.cell?, this]
theorem SW.start {w : World} {a b t u : Tr} (own : Nat) {A B T U : Option Addr} {ca cb ct cu : Nat} (ha : IsT w w.heap.size a A ca) (hb : IsT w w.heap.size b B cb) (ht : IsT w w.heap.size t T ct) (hu : IsT w w.heap.size u U cu) :
    SW w (((w.alloc (.cells #[.int .i64 t.k, .int .i64 t.i, .slice T t.ks.length ct, .int .i64 u.k, .int .i64 u.i, .slice U u.ks.length cu, .int .u64 (own : Int)] 105)).alloc (.cells #[.int .i64 a.k, .int .i64 a.i, .slice A a.ks.length ca] 24)).alloc (.cells #[.int .i64 b.k, .int .i64 b.i, .slice B b.ks.length cb] 24)) a b t u own A B T U ca cb ct cu := by
  have h0 := alB w (.cells #[.int .i64 t.k, .int .i64 t.i, .slice T t.ks.length ct, .int .i64 u.k, .int .i64 u.i, .slice U u.ks.length cu, .int .u64 (own : Int)] 105)
  have E1 := (((Env.start w).alloc (.cells #[.int .i64 t.k, .int .i64 t.i, .slice T t.ks.length ct, .int .i64 u.k, .int .i64 u.i, .slice U u.ks.length cu, .int .u64 (own : Int)] 105)).push (ha.keep h0 h0.size)).push ((hb.keep h0 h0.size).keep (alB _ _) (alB _ _).size)
  rw [World.size_alloc, World.size_alloc] at E1
  refine ⟨E1, ?_, ((ht.keep h0 h0.size).keep (alB _ _) (alB _ _).size).keep (alB _ _) (alB _ _).size, ((hu.keep h0 h0.size).keep (alB _ _) (alB _ _).size).keep (alB _ _) (alB _ _).size⟩
  exact ((alB _ _).block _ (by simp; omega)).trans (((alB _ _).block _ (by simp)).trans (new_at w _))
set_option maxHeartbeats 4000000 in
set_option maxRecDepth 100000 in
theorem leads_any (t u : Tr) (own : Nat) (hU : U64 own) (rt : rightN t = 0) (ru : rightN u = 0) : ∀ (N : Nat) (a b : Tr) (A B T U : Option Addr) (ca cb ct cu : Nat) (w : World), a.sz ≤ N → rightN a = 0 → rightN b = 0 → IsT w w.heap.size a A ca → IsT w w.heap.size b B cb → IsT w w.heap.size t T ct → IsT w w.heap.size u U cu →
    Calls Try.prog 85 #[.agg #[.int .i64 t.k, .int .i64 t.i, .slice T t.ks.length ct, .int .i64 u.k, .int .i64 u.i, .slice U u.ks.length cu, .int .u64 (own : Int)], .agg #[.int .i64 a.k, .int .i64 a.i, .slice A a.ks.length ca], .agg #[.int .i64 b.k, .int .i64 b.i, .slice B b.ks.length cb]] w fun e w' => e = .returned (.bool (swpT t u own a b true)) ∧ Below w.heap.size w w' := by
  intro N
  induction N with
  | zero => intro a b A B T U ca cb ct cu w h; have := sz_pos a; omega
  | succ N ih =>
    intro a b A B T U ca cb ct cu w hN ra rb ha hb ht hu
    have IH := Lib.hid ih
    have UU := Lib.hid hU
    have S0 := Lib.hid (SW.start own ha hb ht hu)
    have SE := Lib.hid (show swpT t u own a b true = (turnB a b t u || (headB a b && swpL t u own a.ks b.ks (!namesB own a))) by rw [swpT_eq]; simp)
    have HH := Lib.hid (show headB a b = true → a.k = b.k ∧ a.i = b.i ∧ a.ks.length = b.ks.length from headB_iff.1)
    have TB := Lib.hid (show turnB a b t u = (sameB a t && sameB b u) by rw [same_right ra rt, same_right rb ru]; rfl)
    have TZ := Lib.hid (show headB a t = false → turnB a b t u = false from fun h => by
      cases e : turnB a b t u with
      | false => rfl
      | true => rw [(turnB_iff.1 e).1, headB_iff.2 ⟨rfl, rfl, rfl⟩] at h; cases h)
    have SB := Lib.hid (same_right ra rb)
    have QI := Lib.hid (show a.k = 7 ∨ a.k = 10 → 0 ≤ a.i ∧ a.i ≤ 63 from fun h => by obtain ⟨_, _, hi⟩ := shp_quant (right_shp' ra).1 h; exact hi)
    have RA := Lib.hid (fun q (hq : q ∈ a.ks) => right_kid ra hq)
    have RB := Lib.hid (fun q (hq : q ∈ b.ks) => right_kid rb hq)
    have hl := ha.len
    have hl2 := hb.len
    clear ih ha hb ht hu ra rb rt ru hU
    go_enter Try.func85, Try.ntmps85
    go_upto_region 1 with fail
    go_cut [23] (fun v wc => v = .bool (turnB a b t u) ∧ SW w wc a b t u own A B T U ca cb ct cu)
    case first =>
      obtain ⟨⟨s0, s1, s2⟩, ⟨s3, s4, s5⟩, s6⟩ := S0.out.cells
      obtain ⟨a0, a1, a2⟩ := S0.out.env.cells (w.heap.size + 1) a A ca (by simp)
      go_wp2_with fail
      refine (sHead_any a t A T ca ct _ (by exact S0.out.env.tree (w.heap.size + 1) a A ca (by simp)) (by exact S0.out.tt)).mono ?_
      rintro e w1 ⟨rfl, hb1⟩
      have S1 := Lib.hid (S0.out.keep hb1)
      clear hb1 s0 s1 s2 s3 s4 s5 s6 a0 a1 a2 S0
      cases h0 : headB a t with
      | false =>
        have TF := Lib.hid (TZ.out h0)
        clear h0
        go_wp2_with fail
        go_meet
        exact ⟨by rw [TF.out], S1.out⟩
      | true =>
        clear h0
        obtain ⟨⟨s0, s1, s2⟩, ⟨s3, s4, s5⟩, s6⟩ := S1.out.cells
        obtain ⟨a0, a1, a2⟩ := S1.out.env.cells (w.heap.size + 1) a A ca (by simp)
        go_wp2_with fail
        refine (same_any a t A T ca ct _ (by exact S1.out.env.tree (w.heap.size + 1) a A ca (by simp)) (by exact S1.out.tt)).mono ?_
        rintro e w2 ⟨rfl, hb2⟩
        have S2 := Lib.hid (S1.out.keep hb2)
        clear hb2 s0 s1 s2 s3 s4 s5 s6 a0 a1 a2 S1
        cases h1 : sameB a t with
        | false =>
          rw [h1] at TB
          clear h1
          go_wp2_with fail
          go_meet
          exact ⟨by rw [TB.out]; rfl, S2.out⟩
        | true =>
          rw [h1] at TB
          clear h1
          obtain ⟨⟨s0, s1, s2⟩, ⟨s3, s4, s5⟩, s6⟩ := S2.out.cells
          obtain ⟨b0, b1, b2⟩ := S2.out.env.cells (w.heap.size + 2) b B cb (by simp)
          go_wp2_with fail
          refine (same_any b u B U cb cu _ (by exact S2.out.env.tree (w.heap.size + 2) b B cb (by simp)) (by exact S2.out.tu)).mono ?_
          rintro e w3 ⟨rfl, hb3⟩
          have S3 := Lib.hid (S2.out.keep hb3)
          clear hb3 s0 s1 s2 s3 s4 s5 s6 b0 b1 b2 S2
          go_wp2_with fail
          go_meet
          exact ⟨by rw [TB.out]; simp, S3.out⟩
    case rest =>
      obtain ⟨rfl, hE⟩ := hcut
      have S1 := Lib.hid hE
      clear hE S0 TZ TB
      cases h1 : turnB a b t u with
      | true =>
        rw [h1] at SE
        clear h1
        go_wp2_with fail
        go_ret
        exact ⟨by rw [SE.out]; rfl, S1.out.env.below⟩
      | false =>
        rw [h1, Bool.false_or] at SE
        clear h1
        obtain ⟨a0, a1, a2⟩ := S1.out.env.cells (w.heap.size + 1) a A ca (by simp)
        obtain ⟨b0, b1, b2⟩ := S1.out.env.cells (w.heap.size + 2) b B cb (by simp)
        go_wp2_with fail
        refine (sHead_any a b A B ca cb _ (by exact S1.out.env.tree (w.heap.size + 1) a A ca (by simp)) (by exact S1.out.env.tree (w.heap.size + 2) b B cb (by simp))).mono ?_
        rintro e w2 ⟨rfl, hb2⟩
        have S2 := Lib.hid (S1.out.keep hb2)
        clear hb2 a0 a1 a2 b0 b1 b2 S1
        cases h1 : headB a b with
        | false =>
          rw [h1] at SE
          clear h1
          go_wp2_with fail
          go_ret
          exact ⟨by rw [SE.out]; rfl, S2.out.env.below⟩
        | true =>
          rw [h1, Bool.true_and] at SE
          have HN := Lib.hid (HH.out h1).2.2
          have NO := Lib.hid (swpL_no (t := t) (u := u) (own := own) h1)
          clear h1 HH
          go_upto_region 5 with fail
          go_cut [38] (fun v wc => v = .bool (namesB own a) ∧ SW w wc a b t u own A B T U ca cb ct cu)
          case first =>
            obtain ⟨a0, a1, a2⟩ := S2.out.env.cells (w.heap.size + 1) a A ca (by simp)
            go_wp2_with fail
            refine (hIsQuant_any a.k a.i A a.ks.length ca _).mono ?_
            rintro e w3 ⟨rfl, hb3⟩
            have S3 := Lib.hid (S2.out.keep hb3)
            clear hb3 a0 a1 a2 S2
            have NB := Lib.hid (show namesB own a = (decide (a.k = 7 ∨ a.k = 10) && hasN own a.i) from rfl)
            by_cases hq : a.k = 7 ∨ a.k = 10
            · have HB := Lib.hid (show (bits .and .u64 ((own : Int) / 2 ^ a.i.toNat) 1 == 1) = hasN own a.i by rw [has_walk own a.i UU.out, hasN_in own a.i (QI.out hq).1 (QI.out hq).2])
              obtain ⟨i0, i1⟩ := QI.out hq
              rw [decide_eq_true hq] at NB ⊢
              clear hq
              obtain ⟨a0, a1, a2⟩ := S3.out.env.cells (w.heap.size + 1) a A ca (by simp)
              obtain ⟨_, _, s6⟩ := S3.out.cells
              go_wp2_with fail
              go_meet
              exact ⟨by rw [NB.out, HB.out]; rfl, S3.out⟩
            · rw [decide_eq_false hq] at NB ⊢
              clear hq
              go_wp2_with fail
              go_meet
              exact ⟨by rw [NB.out]; rfl, S3.out⟩
          case rest =>
            obtain ⟨rfl, hE⟩ := hcut
            have S3 := Lib.hid hE
            clear hE S2 QI
            cases h1 : namesB own a with
            | true =>
              rw [h1] at SE
              clear h1
              obtain ⟨a0, a1, a2⟩ := S3.out.env.cells (w.heap.size + 1) a A ca (by simp)
              obtain ⟨b0, b1, b2⟩ := S3.out.env.cells (w.heap.size + 2) b B cb (by simp)
              go_wp2_with fail
              refine (same_any a b A B ca cb _ (by exact S3.out.env.tree (w.heap.size + 1) a A ca (by simp)) (by exact S3.out.env.tree (w.heap.size + 2) b B cb (by simp))).mono ?_
              rintro e w4 ⟨rfl, hb4⟩
              have S4 := Lib.hid (S3.out.keep hb4)
              clear hb4 a0 a1 a2 b0 b1 b2 S3
              go_wp2_with fail
              go_ret
              exact ⟨by rw [SE.out, Bool.not_true, NO.out, ← SB.out]; rfl, S4.out.env.below⟩
            | false =>
              rw [h1, Bool.not_false] at SE
              clear h1 NO SB
              obtain ⟨a0, a1, a2⟩ := S3.out.env.cells (w.heap.size + 1) a A ca (by simp)
              go_wp2_with fail
              clear a0 a1 a2
              go_loopw [45] (fun i wr => ∃ m : Nat, m ≤ a.ks.length ∧ i = .int .i64 m ∧ swpL t u own (a.ks.take m) (b.ks.take m) true = true ∧ SW w wr a b t u own A B T U ca cb ct cu) (fun i _ => a.ks.length - (intOf i).toNat)
              case atStart => exact ⟨0, Nat.zero_le _, rfl, by simp [swpL_nil], S3.out⟩
              case round =>
                obtain ⟨m, hm', rfl, hal, hE⟩ := hrel
                have AL := Lib.hid hal
                have S5 := Lib.hid hE
                clear hal hE S3
                by_cases hlt : m < a.ks.length
                · have hltb : m < b.ks.length := by rw [← HN.out]; exact hlt
                  have TK := Lib.hid (swpL_take t u own true a.ks b.ks m hlt hltb)
                  have FF := Lib.hid (swpL_false t u own true a.ks b.ks m hlt hltb)
                  have RQ := Lib.hid (RA.out a.ks[m] (List.getElem_mem hlt))
                  have RP := Lib.hid (RB.out b.ks[m] (List.getElem_mem hltb))
                  have kz := kid_sz a m hlt
                  obtain ⟨ba, oa, Aa, ka, eA, hla, p0, p1, p2, hka⟩ := (S5.out.env.tree (w.heap.size + 1) a A ca (by simp)).kid m hlt
                  obtain ⟨bb, ob, Ab, kb, eB, hlb, q0, q1, q2, hkb⟩ := (S5.out.env.tree (w.heap.size + 2) b B cb (by simp)).kid m hltb
                  obtain ⟨qa, hqa⟩ : ∃ qa, qa = a.ks[m] := ⟨_, rfl⟩
                  obtain ⟨qb, hqb⟩ : ∃ qb, qb = b.ks[m] := ⟨_, rfl⟩
                  rw [← hqa] at p0 p1 p2 hka TK FF kz RQ
                  rw [← hqb] at q0 q1 q2 hkb TK FF RP
                  subst eA eB
                  have KA := Lib.hid hka
                  have KB := Lib.hid hkb
                  have x2 := (S5.out.env.cells (w.heap.size + 1) a (some ⟨ba, oa, none⟩) ca (by simp)).2.2
                  have y2 := (S5.out.env.cells (w.heap.size + 2) b (some ⟨bb, ob, none⟩) cb (by simp)).2.2
                  obtain ⟨⟨s0, s1, s2⟩, ⟨s3, s4, s5⟩, s6⟩ := S5.out.cells
                  have hw0 : w.heap.size < wr.heap.size := block_lt_of_cell s0
                  have BB : Below wr.drew.heap.size wr.drew wr.drew := Below.refl _ _
                  have SS := Lib.hid (fun (W : World) (h : Below wr.drew.heap.size wr.drew W) => And.intro (And.intro ((h.cell (block_lt_of_cell x2)).trans x2) ((h.cell (block_lt_of_cell y2)).trans y2)) (And.intro (And.intro ((h.cell hla).trans p0) (And.intro ((h.cell hla).trans p1) ((h.cell hla).trans p2))) (And.intro (And.intro ((h.cell hlb).trans q0) (And.intro ((h.cell hlb).trans q1) ((h.cell hlb).trans q2))) (And.intro (And.intro ((h.cell (block_lt_of_cell s0)).trans s0) (And.intro ((h.cell (block_lt_of_cell s1)).trans s1) ((h.cell (block_lt_of_cell s2)).trans s2))) (And.intro (And.intro ((h.cell (block_lt_of_cell s3)).trans s3) (And.intro ((h.cell (block_lt_of_cell s4)).trans s4) ((h.cell (block_lt_of_cell s5)).trans s5))) ((h.cell (block_lt_of_cell s6)).trans s6))))))
                  have hm0 : (0 : Int) ≤ (m : Int) := by omega
                  have hm1 : (m : Int) < (a.ks.length : Int) := by omega
                  have hm2 : (m : Int) < (b.ks.length : Int) := by omega
                  clear hqa hqb hka hkb p0 p1 p2 q0 q1 q2 x2 y2 s0 s1 s2 s3 s4 s5 s6
                  go_wp2_with fail
                  go_region_held3 (fun w' => (w'.cell? ⟨w.heap.size + 1, 2, none⟩ = some (.slice (some ⟨ba, oa, none⟩) a.ks.length ca) ∧ w'.cell? ⟨w.heap.size + 2, 2, none⟩ = some (.slice (some ⟨bb, ob, none⟩) b.ks.length cb)) ∧ ((w'.cell? ⟨ba, oa + m * 3, none⟩ = some (.int .i64 qa.k) ∧ w'.cell? ⟨ba, oa + m * 3 + 1, none⟩ = some (.int .i64 qa.i) ∧ w'.cell? ⟨ba, oa + m * 3 + 2, none⟩ = some (.slice Aa qa.ks.length ka)) ∧ ((w'.cell? ⟨bb, ob + m * 3, none⟩ = some (.int .i64 qb.k) ∧ w'.cell? ⟨bb, ob + m * 3 + 1, none⟩ = some (.int .i64 qb.i) ∧ w'.cell? ⟨bb, ob + m * 3 + 2, none⟩ = some (.slice Ab qb.ks.length kb)) ∧ ((w'.cell? ⟨w.heap.size, 0, none⟩ = some (.int .i64 t.k) ∧ w'.cell? ⟨w.heap.size, 1, none⟩ = some (.int .i64 t.i) ∧ w'.cell? ⟨w.heap.size, 2, none⟩ = some (.slice T t.ks.length ct)) ∧ ((w'.cell? ⟨w.heap.size, 3, none⟩ = some (.int .i64 u.k) ∧ w'.cell? ⟨w.heap.size, 4, none⟩ = some (.int .i64 u.i) ∧ w'.cell? ⟨w.heap.size, 5, none⟩ = some (.slice U u.ks.length cu)) ∧ w'.cell? ⟨w.heap.size, 6, none⟩ = some (.int .u64 (own : Int)))))))
                    (exact SS.out _ BB)
                    (first
                      | (go_at_call 85; refine (IH.out qa qb Aa Ab T U ka kb ct cu _ (by omega) RQ.out RP.out (KA.out.keep ((Below.refl _ _).drew) (Nat.le_refl _)) (KB.out.keep ((Below.refl _ _).drew) (Nat.le_refl _)) (S5.out.keep ((Below.refl _ _).drew)).tt (S5.out.keep ((Below.refl _ _).drew)).tu).mono ?_; rintro e w6 ⟨rfl, hb6⟩; replace BB := BB.trans (hb6.mono BB.size); clear hb6))
                  all_goals
                    have S6 := Lib.hid ((S5.out.keep ((Below.refl _ _).drew)).keep BB)
                    rw [AL.out, Bool.true_and] at TK
                    cases hr : swpT t u own qa qb true with
                    | true =>
                      rw [hr] at TK
                      go_wp2_with fail
                      go_roundw
                      case rel => exact ⟨m + 1, by omega, by go_num, TK.out, S6.out⟩
                      case measure => simp [intOf]; omega
                    | false =>
                      have F := Lib.hid (FF.out hr)
                      go_wp2_with fail
                      go_ret
                      exact ⟨by rw [SE.out, F.out]; rfl, S6.out.env.below⟩
                · obtain rfl : m = a.ks.length := by omega
                  have F := Lib.hid (show swpL t u own a.ks b.ks true = true by have := AL.out; rw [List.take_length, HN.out, List.take_length] at this; exact this)
                  go_wp2_with fail
                  go_ret
                  exact ⟨by rw [SE.out, F.out]; rfl, S5.out.env.below⟩
set_option maxHeartbeats 2000000 in
theorem swapped_any (a b t u : Tr) (A B T U : Option Addr) (ca cb ct cu : Nat) (w : World) (ra : rightN a = 0) (rb : rightN b = 0) (rt : rightN t = 0) (ru : rightN u = 0) (ha : IsT w w.heap.size a A ca) (hb : IsT w w.heap.size b B cb) (ht : IsT w w.heap.size t T ct) (hu : IsT w w.heap.size u U cu) :
    Calls Try.prog 41 #[.agg #[.int .i64 a.k, .int .i64 a.i, .slice A a.ks.length ca], .agg #[.int .i64 b.k, .int .i64 b.i, .slice B b.ks.length cb], .agg #[.int .i64 t.k, .int .i64 t.i, .slice T t.ks.length ct], .agg #[.int .i64 u.k, .int .i64 u.i, .slice U u.ks.length cu]] w fun e w' => e = .returned (.bool (swpT t u (varsT t ||| varsT u) a b true)) ∧ Below w.heap.size w w' := by
  have E0 := Lib.hid (env4 ha hb ht hu)
  have R := Lib.hid (And.intro (And.intro ra rb) (And.intro rt ru))
  have VT := Lib.hid (show valR varsT t = varsT t by unfold valR; rw [if_pos rt])
  have VU := Lib.hid (show valR varsT u = varsT u by unfold valR; rw [if_pos ru])
  have OR := Lib.hid (or_walk64 (varsT t) (varsT u) (varsT_U t) (varsT_U u))
  obtain ⟨t0, t1, t2⟩ := E0.out.cells (w.heap.size + 2) t T ct (by simp)
  clear ra rb rt ru ha hb ht hu
  go_enter Try.func41, Try.ntmps41
  go_wp2_with fail
  refine (vars_any t T ct _ (by exact E0.out.tree (w.heap.size + 2) t T ct (by simp))).mono ?_
  rintro e w1 ⟨rfl, hb1⟩
  have E1 := Lib.hid (E0.out.keep hb1)
  clear hb1 t0 t1 t2 E0
  rw [VT.out]
  obtain ⟨t0, t1, t2⟩ := E1.out.cells (w.heap.size + 3) u U cu (by simp)
  go_wp2_with fail
  refine (vars_any u U cu _ (by exact E1.out.tree (w.heap.size + 3) u U cu (by simp))).mono ?_
  rintro e w2 ⟨rfl, hb2⟩
  have E2 := Lib.hid (E1.out.keep hb2)
  clear hb2 t0 t1 t2 E1
  rw [VU.out]
  obtain ⟨u0, u1, u2⟩ := E2.out.cells (w.heap.size + 3) u U cu (by simp)
  obtain ⟨t0, t1, t2⟩ := E2.out.cells (w.heap.size + 2) t T ct (by simp)
  obtain ⟨b0, b1, b2⟩ := E2.out.cells (w.heap.size + 1) b B cb (by simp)
  obtain ⟨a0, a1, a2⟩ := E2.out.cells w.heap.size a A ca (by simp)
  have UU := Lib.hid (show U64 (varsT t ||| varsT u) from Nat.or_lt_two_pow (varsT_U t) (varsT_U u))
  go_wp2_with fail
  rw [OR.out]
  refine (leads_any t u (varsT t ||| varsT u) UU.out R.out.2.1 R.out.2.2 a.sz a b A B T U ca cb ct cu _ (Nat.le_refl _) R.out.1.1 R.out.1.2 (by exact E2.out.tree w.heap.size a A ca (by simp)) (by exact E2.out.tree (w.heap.size + 1) b B cb (by simp)) (by exact E2.out.tree (w.heap.size + 2) t T ct (by simp)) (by exact E2.out.tree (w.heap.size + 3) u U cu (by simp))).mono ?_
  rintro e w3 ⟨rfl, hb3⟩
  have E3 := Lib.hid (E2.out.keep hb3)
  clear hb3
  go_wp2_with fail
  go_ret
  exact ⟨rfl, E3.out.below⟩
end Go.Proofs.Ytmmdhlemkcddmaa
namespace Go.Proofs.Ytmmdhlemkcddmaa
open Go.RowKit
set_option linter.unusedVariables false
set_option linter.unusedSimpArgs false
abbrev listT (l : List Tr) : Tr := .node 0 0 l
theorem isT_four {Y : World} {r : Nat} {a b t u : Tr} {A B T U : Option Addr} {ca cb ct cu : Nat} (hrow : Y.heap[r]? = some (.cells #[.int .i64 a.k, .int .i64 a.i, .slice A a.ks.length ca, .int .i64 b.k, .int .i64 b.i, .slice B b.ks.length cb, .int .i64 t.k, .int .i64 t.i, .slice T t.ks.length ct, .int .i64 u.k, .int .i64 u.i, .slice U u.ks.length cu] 24 (0, 0)))
    (ia : IsT Y Y.heap.size a A ca) (ib : IsT Y Y.heap.size b B cb) (it : IsT Y Y.heap.size t T ct) (iu : IsT Y Y.heap.size u U cu) : IsT Y Y.heap.size (listT [a, b, t, u]) (some ⟨r, 0, none⟩) 4 := by
  have hr : r < Y.heap.size := (Array.getElem?_eq_some_iff.1 hrow).1
  refine IsT.mk (by simp [Tr.ks]) (by simp [Tr.ks, Cap]) fun m hm => ?_
  have hm2 : m < 4 := hm
  rcases Nat.lt_or_ge m 2 with h | h
  · rcases Nat.lt_or_ge m 1 with h1 | h1
    · obtain rfl : m = 0 := by omega
      exact ⟨r, 0, A, ca, rfl, hr, (cell_at hrow 0).trans rfl, (cell_at hrow 1).trans rfl, (cell_at hrow 2).trans rfl, ia⟩
    · obtain rfl : m = 1 := by omega
      exact ⟨r, 0, B, cb, rfl, hr, (cell_at hrow 3).trans rfl, (cell_at hrow 4).trans rfl, (cell_at hrow 5).trans rfl, ib⟩
  · rcases Nat.lt_or_ge m 3 with h1 | h1
    · obtain rfl : m = 2 := by omega
      exact ⟨r, 0, T, ct, rfl, hr, (cell_at hrow 6).trans rfl, (cell_at hrow 7).trans rfl, (cell_at hrow 8).trans rfl, it⟩
    · obtain rfl : m = 3 := by omega
      exact ⟨r, 0, U, cu, rfl, hr, (cell_at hrow 9).trans rfl, (cell_at hrow 10).trans rfl, (cell_at hrow 11).trans rfl, iu⟩
def sorts4 : List Bool := [false, false, true, true]
def swN (a b t u : Tr) : Nat := sortedN [a, b, t, u] sorts4
def swV (a b t u : Tr) : Bool := if swN a b t u = 0 then swpT t u (varsT t ||| varsT u) a b true else false
theorem sorted_zero {ks : List Tr} {cs : List Bool} (h : sortedN ks cs = 0) : firstL ks = 0 ∧ sortsB ks cs = true := by
  unfold sortedN at h
  split at h
  · rename_i h1; exact absurd h h1
  · rename_i h1
    split at h
    · rename_i h2; exact ⟨by simpa using h1, h2⟩
    · cases h
theorem swN_right {a b t u : Tr} (h : swN a b t u = 0) : (rightN a = 0 ∧ rightN b = 0) ∧ rightN t = 0 ∧ rightN u = 0 := by
  have := firstL_zero (sorted_zero h).1
  exact ⟨⟨this a (by simp), this b (by simp)⟩, this t (by simp), this u (by simp)⟩
theorem names4 : Names ⟨#[102, 102, 116, 116]⟩ sorts4 := by
  intro m h
  have hm : m < 4 := h
  rcases Nat.lt_or_ge m 2 with h1 | h1
  · rcases Nat.lt_or_ge m 1 with h2 | h2
    · obtain rfl : m = 0 := by omega
      rfl
    · obtain rfl : m = 1 := by omega
      rfl
  · rcases Nat.lt_or_ge m 3 with h2 | h2
    · obtain rfl : m = 2 := by omega
      rfl
    · obtain rfl : m = 3 := by omega
      rfl
theorem names4_size : (⟨#[102, 102, 116, 116]⟩ : ByteArray).size = 4 := rfl
theorem row4 {w W : World} {a b t u : Tr} {A B T U : Option Addr} {ca cb ct cu : Nat} (E : Env w W [(w.heap.size + 3, u, U, cu), (w.heap.size + 2, t, T, ct), (w.heap.size + 1, b, B, cb), (w.heap.size, a, A, ca)]) (g : Nat) (hg : g = W.heap.size) :
    IsT (W.alloc (.cells #[.int .i64 a.k, .int .i64 a.i, .slice A a.ks.length ca, .int .i64 b.k, .int .i64 b.i, .slice B b.ks.length cb, .int .i64 t.k, .int .i64 t.i, .slice T t.ks.length ct, .int .i64 u.k, .int .i64 u.i, .slice U u.ks.length cu] 24))
      (W.alloc (.cells #[.int .i64 a.k, .int .i64 a.i, .slice A a.ks.length ca, .int .i64 b.k, .int .i64 b.i, .slice B b.ks.length cb, .int .i64 t.k, .int .i64 t.i, .slice T t.ks.length ct, .int .i64 u.k, .int .i64 u.i, .slice U u.ks.length cu] 24)).heap.size (listT [a, b, t, u]) (some ⟨g, 0, none⟩) 4 := by
  subst hg
  have E1 := E.keep (alB W (.cells #[.int .i64 a.k, .int .i64 a.i, .slice A a.ks.length ca, .int .i64 b.k, .int .i64 b.i, .slice B b.ks.length cb, .int .i64 t.k, .int .i64 t.i, .slice T t.ks.length ct, .int .i64 u.k, .int .i64 u.i, .slice U u.ks.length cu] 24))
  exact isT_four (new_at W _) (E1.tree w.heap.size a A ca (by simp)) (E1.tree (w.heap.size + 1) b B cb (by simp)) (E1.tree (w.heap.size + 2) t T ct (by simp)) (E1.tree (w.heap.size + 3) u U cu (by simp))
set_option maxHeartbeats 4000000 in
set_option maxRecDepth 100000 in
theorem rswapped_any (a b t u : Tr) (A B T U : Option Addr) (ca cb ct cu : Nat) (w : World) (ha : IsT w w.heap.size a A ca) (hb : IsT w w.heap.size b B cb) (ht : IsT w w.heap.size t T ct) (hu : IsT w w.heap.size u U cu) :
    Calls Try.prog 13 #[.agg #[.int .i64 a.k, .int .i64 a.i, .slice A a.ks.length ca], .agg #[.int .i64 b.k, .int .i64 b.i, .slice B b.ks.length cb], .agg #[.int .i64 t.k, .int .i64 t.i, .slice T t.ks.length ct], .agg #[.int .i64 u.k, .int .i64 u.i, .slice U u.ks.length cu]] w fun e w' => e = .returned (.tuple #[.bool (swV a b t u), .int .i64 (swN a b t u : Nat)]) ∧ Below w.heap.size w w' := by
  have E0 := Lib.hid (env4 ha hb ht hu)
  obtain ⟨u0, u1, u2⟩ := E0.out.cells (w.heap.size + 3) u U cu (by simp)
  obtain ⟨t0, t1, t2⟩ := E0.out.cells (w.heap.size + 2) t T ct (by simp)
  obtain ⟨b0, b1, b2⟩ := E0.out.cells (w.heap.size + 1) b B cb (by simp)
  obtain ⟨a0, a1, a2⟩ := E0.out.cells w.heap.size a A ca (by simp)
  have R0 := Lib.hid (row4 E0.out (w.heap.size + 1 + 1 + 1 + 1) (by simp))
  clear ha hb ht hu
  go_enter Try.func13, Try.ntmps13
  go_wp2_with fail
  refine (rsorted_any (listT [a, b, t, u]) _ 4 ⟨#[102, 102, 116, 116]⟩ sorts4 _ (by exact R0.out) names4_size names4).mono ?_
  rintro e w1 ⟨rfl, hb1⟩
  have E1 := Lib.hid ((E0.out.keep (alB _ _)).keep hb1)
  clear hb1 u0 u1 u2 t0 t1 t2 b0 b1 b2 a0 a1 a2 R0 E0
  rw [show sortedN (listT [a, b, t, u]).ks sorts4 = swN a b t u from rfl]
  have SV := Lib.hid (show swV a b t u = if swN a b t u = 0 then swpT t u (varsT t ||| varsT u) a b true else false from rfl)
  obtain ⟨n, hn⟩ : ∃ n, n = swN a b t u := ⟨_, rfl⟩
  rw [← hn] at SV ⊢
  have HN := Lib.hid hn
  clear hn
  by_cases h0 : n = 0
  · subst h0
    rw [if_pos rfl] at SV
    have U1 := Lib.hid (varsT_U t)
    have U2 := Lib.hid (varsT_U u)
    have UU := Lib.hid (show U64 (varsT t ||| varsT u) from Nat.or_lt_two_pow (varsT_U t) (varsT_U u))
    go_wp2_with fail
    have T' := E1.out.keep ((Below.refl _ _).drew)
    go_region_held3 (fun w' => (w'.cell? ⟨w.heap.size + 2, 0, none⟩ = some (.int .i64 t.k) ∧ w'.cell? ⟨w.heap.size + 2, 1, none⟩ = some (.int .i64 t.i) ∧ w'.cell? ⟨w.heap.size + 2, 2, none⟩ = some (.slice T t.ks.length ct)) ∧ (w'.cell? ⟨w.heap.size + 3, 0, none⟩ = some (.int .i64 u.k) ∧ w'.cell? ⟨w.heap.size + 3, 1, none⟩ = some (.int .i64 u.i) ∧ w'.cell? ⟨w.heap.size + 3, 2, none⟩ = some (.slice U u.ks.length cu)))
      (exact ⟨T'.cells (w.heap.size + 2) t T ct (by simp), T'.cells (w.heap.size + 3) u U cu (by simp)⟩)
      (first
        | (go_at_call 35; (first | refine (rofvars_any t T ct _ (by exact T'.tree (w.heap.size + 2) t T ct (by simp))).mono ?_ | refine (rofvars_any u U cu _ (by exact T'.tree (w.heap.size + 3) u U cu (by simp))).mono ?_); rintro e w11 ⟨rfl, hb11⟩; replace T' := T'.keep hb11; clear hb11)
        | (go_at_call 33; refine (runion_any (varsT t) (varsT u) _ U1.out U2.out).mono ?_; rintro e w12 ⟨rfl, hw12⟩; rw [← hw12]; clear hw12))
    all_goals
      have E3 := Lib.hid T'
      obtain ⟨u0, u1, u2⟩ := E3.out.cells (w.heap.size + 3) u U cu (by simp)
      obtain ⟨t0, t1, t2⟩ := E3.out.cells (w.heap.size + 2) t T ct (by simp)
      obtain ⟨b0, b1, b2⟩ := E3.out.cells (w.heap.size + 1) b B cb (by simp)
      obtain ⟨a0, a1, a2⟩ := E3.out.cells w.heap.size a A ca (by simp)
      go_wp2_with fail
      refine (rswap_any t u (varsT t ||| varsT u) UU.out a.sz a b A B T U ca cb ct cu true _ (Nat.le_refl _) (by exact E3.out.tree w.heap.size a A ca (by simp)) (by exact E3.out.tree (w.heap.size + 1) b B cb (by simp)) (by exact E3.out.tree (w.heap.size + 2) t T ct (by simp)) (by exact E3.out.tree (w.heap.size + 3) u U cu (by simp))).mono ?_
      rintro e w4 ⟨rfl, hb4⟩
      have E4 := Lib.hid (E3.out.keep hb4)
      clear hb4
      go_wp2_with fail
      go_ret2
      exact ⟨by rw [SV.out, ← HN.out]; rfl, E4.out.below⟩
  · have h1 : ((n : Int) != 0) = true := by rw [bne_iff_ne]; omega
    rw [if_neg h0] at SV
    clear h0
    go_wp2_with fail
    go_ret2
    exact ⟨by rw [SV.out, ← HN.out]; rfl, E1.out.below⟩
theorem sorts_new {W : World} (g : Nat) (hg : g = W.heap.size) : SortsAt (W.alloc (.cells #[.func (.func 38) #[] #[], .func (.func 38) #[] #[], .func (.func 39) #[] #[], .func (.func 39) #[] #[]] 103)) (W.alloc (.cells #[.func (.func 38) #[] #[], .func (.func 38) #[] #[], .func (.func 39) #[] #[], .func (.func 39) #[] #[]] 103)).heap.size (some ⟨g, 0, none⟩) sorts4 := by
  subst hg
  have h : ∀ j, (W.alloc (.cells #[.func (.func 38) #[] #[], .func (.func 38) #[] #[], .func (.func 39) #[] #[], .func (.func 39) #[] #[]] 103)).cell? ⟨W.heap.size, j, none⟩ = (#[.func (.func 38) #[] #[], .func (.func 38) #[] #[], .func (.func 39) #[] #[], .func (.func 39) #[] #[]] : Array Value)[j]? := by
    intro j
    unfold World.cell?
    rw [new_at W _]
    rfl
  intro j hj
  have hj4 : j < 4 := hj
  refine ⟨W.heap.size, 0, rfl, by simp, ?_⟩
  rcases Nat.lt_or_ge j 2 with h1 | h1
  · rcases Nat.lt_or_ge j 1 with h2 | h2
    · obtain rfl : j = 0 := by omega
      exact h 0
    · obtain rfl : j = 1 := by omega
      exact h 1
  · rcases Nat.lt_or_ge j 3 with h2 | h2
    · obtain rfl : j = 2 := by omega
      exact h 2
    · obtain rfl : j = 3 := by omega
      exact h 3
theorem SortsAt.keep {w w' : World} {B B' : Nat} {A : Option Addr} {cs : List Bool} (h : SortsAt w B A cs) (hb : Below B w w') (hB : B ≤ B') : SortsAt w' B' A cs := fun j hj => by
  obtain ⟨b, o, e, hlt, hc⟩ := h j hj
  exact ⟨b, o, e, by omega, (hb.cell hlt).trans hc⟩
set_option maxHeartbeats 4000000 in
set_option maxRecDepth 100000 in
theorem sswapped_any (a b t u : Tr) (A B T U : Option Addr) (ca cb ct cu : Nat) (w : World) (ha : IsT w w.heap.size a A ca) (hb : IsT w w.heap.size b B cb) (ht : IsT w w.heap.size t T ct) (hu : IsT w w.heap.size u U cu) :
    Calls Try.prog 12 #[.agg #[.int .i64 a.k, .int .i64 a.i, .slice A a.ks.length ca], .agg #[.int .i64 b.k, .int .i64 b.i, .slice B b.ks.length cb], .agg #[.int .i64 t.k, .int .i64 t.i, .slice T t.ks.length ct], .agg #[.int .i64 u.k, .int .i64 u.i, .slice U u.ks.length cu]] w fun e w' => e = .returned (.tuple #[.bool (swV a b t u), .int .i64 (swN a b t u : Nat)]) ∧ Below w.heap.size w w' := by
  have E00 := env4 ha hb ht hu
  have E0 := Lib.hid (E00.keep (alB _ (.cells #[.func (.func 38) #[] #[], .func (.func 38) #[] #[], .func (.func 39) #[] #[], .func (.func 39) #[] #[]] 103)))
  obtain ⟨u0, u1, u2⟩ := E0.out.cells (w.heap.size + 3) u U cu (by simp)
  obtain ⟨t0, t1, t2⟩ := E0.out.cells (w.heap.size + 2) t T ct (by simp)
  obtain ⟨b0, b1, b2⟩ := E0.out.cells (w.heap.size + 1) b B cb (by simp)
  obtain ⟨a0, a1, a2⟩ := E0.out.cells w.heap.size a A ca (by simp)
  have R0 := Lib.hid (row4 E0.out (w.heap.size + 1 + 1 + 1 + 1 + 1) (by simp))
  have so1 := (sorts_new (g := w.heap.size + 1 + 1 + 1 + 1) (hg := by simp) (W := ((((w.alloc (.cells #[.int .i64 a.k, .int .i64 a.i, .slice A a.ks.length ca] 24)).alloc (.cells #[.int .i64 b.k, .int .i64 b.i, .slice B b.ks.length cb] 24)).alloc (.cells #[.int .i64 t.k, .int .i64 t.i, .slice T t.ks.length ct] 24)).alloc (.cells #[.int .i64 u.k, .int .i64 u.i, .slice U u.ks.length cu] 24))))
  have so2 := alB ((((((w.alloc (.cells #[.int .i64 a.k, .int .i64 a.i, .slice A a.ks.length ca] 24)).alloc (.cells #[.int .i64 b.k, .int .i64 b.i, .slice B b.ks.length cb] 24)).alloc (.cells #[.int .i64 t.k, .int .i64 t.i, .slice T t.ks.length ct] 24)).alloc (.cells #[.int .i64 u.k, .int .i64 u.i, .slice U u.ks.length cu] 24)).alloc (.cells #[.func (.func 38) #[] #[], .func (.func 38) #[] #[], .func (.func 39) #[] #[], .func (.func 39) #[] #[]] 103))) (.cells #[.int .i64 a.k, .int .i64 a.i, .slice A a.ks.length ca, .int .i64 b.k, .int .i64 b.i, .slice B b.ks.length cb, .int .i64 t.k, .int .i64 t.i, .slice T t.ks.length ct, .int .i64 u.k, .int .i64 u.i, .slice U u.ks.length cu] 24)
  have SO := Lib.hid (so1.keep so2 so2.size)
  clear so1 so2
  clear ha hb ht hu E00
  go_enter Try.func12, Try.ntmps12
  go_wp2_with fail
  refine (listFault_any (listT [a, b, t, u]) _ _ 4 4 sorts4 _ (by exact R0.out) rfl (by exact SO.out)).mono ?_
  rintro e w1 ⟨rfl, hb1⟩
  have E1 := Lib.hid ((E0.out.keep (alB _ _)).keep hb1)
  clear hb1 u0 u1 u2 t0 t1 t2 b0 b1 b2 a0 a1 a2 R0 E0 SO
  rw [show sortedN (listT [a, b, t, u]).ks sorts4 = swN a b t u from rfl]
  have SV := Lib.hid (show swV a b t u = if swN a b t u = 0 then swpT t u (varsT t ||| varsT u) a b true else false from rfl)
  have RR := Lib.hid (swN_right (a := a) (b := b) (t := t) (u := u))
  obtain ⟨n, hn⟩ : ∃ n, n = swN a b t u := ⟨_, rfl⟩
  rw [← hn] at SV RR ⊢
  have HN := Lib.hid hn
  clear hn
  by_cases h0 : n = 0
  · subst h0
    rw [if_pos rfl] at SV
    have RS := Lib.hid (RR.out rfl)
    obtain ⟨u0, u1, u2⟩ := E1.out.cells (w.heap.size + 3) u U cu (by simp)
    obtain ⟨t0, t1, t2⟩ := E1.out.cells (w.heap.size + 2) t T ct (by simp)
    obtain ⟨b0, b1, b2⟩ := E1.out.cells (w.heap.size + 1) b B cb (by simp)
    obtain ⟨a0, a1, a2⟩ := E1.out.cells w.heap.size a A ca (by simp)
    go_wp2_with fail
    refine (swapped_any a b t u A B T U ca cb ct cu _ RS.out.1.1 RS.out.1.2 RS.out.2.1 RS.out.2.2 (by exact E1.out.tree w.heap.size a A ca (by simp)) (by exact E1.out.tree (w.heap.size + 1) b B cb (by simp)) (by exact E1.out.tree (w.heap.size + 2) t T ct (by simp)) (by exact E1.out.tree (w.heap.size + 3) u U cu (by simp))).mono ?_
    rintro e w4 ⟨rfl, hb4⟩
    have E4 := Lib.hid (E1.out.keep hb4)
    clear hb4
    go_wp2_with fail
    go_ret2
    exact ⟨by rw [SV.out, ← HN.out]; rfl, E4.out.below⟩
  · have h1 : ((n : Int) != 0) = true := by rw [bne_iff_ne]; omega
    rw [if_neg h0] at SV
    clear h0
    go_wp2_with fail
    go_ret2
    exact ⟨by rw [SV.out, ← HN.out]; rfl, E1.out.below⟩
end Go.Proofs.Ytmmdhlemkcddmaa
namespace Go.Proofs.Ytmmdhlemkcddmaa
open Go.RowKit
set_option linter.unusedVariables false
set_option linter.unusedSimpArgs false
set_option maxHeartbeats 4000000 in
set_option maxRecDepth 100000 in
theorem swaps_law (a b t u : Tr) (A B T U : Option Addr) (ca cb ct cu : Nat) (w : World) (ha : IsT w w.heap.size a A ca) (hb : IsT w w.heap.size b B cb) (ht : IsT w w.heap.size t T ct) (hu : IsT w w.heap.size u U cu) :
    Calls Try.prog 3 #[.agg #[.int .i64 a.k, .int .i64 a.i, .slice A a.ks.length ca], .agg #[.int .i64 b.k, .int .i64 b.i, .slice B b.ks.length cb], .agg #[.int .i64 t.k, .int .i64 t.i, .slice T t.ks.length ct], .agg #[.int .i64 u.k, .int .i64 u.i, .slice U u.ks.length cu]] w fun e w' => e = .returned (.bool true) ∧ Below w.heap.size w w' := by
  have E0 := Lib.hid (env4 ha hb ht hu)
  obtain ⟨u0, u1, u2⟩ := E0.out.cells (w.heap.size + 3) u U cu (by simp)
  obtain ⟨t0, t1, t2⟩ := E0.out.cells (w.heap.size + 2) t T ct (by simp)
  obtain ⟨b0, b1, b2⟩ := E0.out.cells (w.heap.size + 1) b B cb (by simp)
  obtain ⟨a0, a1, a2⟩ := E0.out.cells w.heap.size a A ca (by simp)
  clear ha hb ht hu
  go_enter Try.func3, Try.ntmps3
  go_wp2_with fail
  refine (sswapped_any a b t u A B T U ca cb ct cu _ (by exact E0.out.tree w.heap.size a A ca (by simp)) (by exact E0.out.tree (w.heap.size + 1) b B cb (by simp)) (by exact E0.out.tree (w.heap.size + 2) t T ct (by simp)) (by exact E0.out.tree (w.heap.size + 3) u U cu (by simp))).mono ?_
  rintro e w1 ⟨rfl, hb1⟩
  have E1 := Lib.hid (E0.out.keep hb1)
  clear hb1 a0 a1 a2 b0 b1 b2 t0 t1 t2 u0 u1 u2 E0
  obtain ⟨u0, u1, u2⟩ := E1.out.cells (w.heap.size + 3) u U cu (by simp)
  obtain ⟨t0, t1, t2⟩ := E1.out.cells (w.heap.size + 2) t T ct (by simp)
  obtain ⟨b0, b1, b2⟩ := E1.out.cells (w.heap.size + 1) b B cb (by simp)
  obtain ⟨a0, a1, a2⟩ := E1.out.cells w.heap.size a A ca (by simp)
  go_wp2_with fail
  refine (rswapped_any a b t u A B T U ca cb ct cu _ (by exact E1.out.tree w.heap.size a A ca (by simp)) (by exact E1.out.tree (w.heap.size + 1) b B cb (by simp)) (by exact E1.out.tree (w.heap.size + 2) t T ct (by simp)) (by exact E1.out.tree (w.heap.size + 3) u U cu (by simp))).mono ?_
  rintro e w2 ⟨rfl, hb2⟩
  have E2 := Lib.hid (E1.out.keep hb2)
  clear hb2 a0 a1 a2 b0 b1 b2 t0 t1 t2 u0 u1 u2 E1
  go_wp2_with fail
  go_ret
  exact ⟨by simp, E2.out.below⟩
theorem rFB_iff {t : Tr} : rFB t = true ↔ rightN t = 0 ∧ termB t.k = false := by unfold rFB; rw [Bool.and_eq_true, decide_eq_true_iff, Bool.not_eq_true']
theorem rTB_iff {t : Tr} : rTB t = true ↔ rightN t = 0 ∧ termB t.k = true := by unfold rTB; rw [Bool.and_eq_true, decide_eq_true_iff]
theorem firstL_none {ks : List Tr} (h : ∀ q ∈ ks, rightN q = 0) : firstL ks = 0 := by
  induction ks with
  | nil => rfl
  | cons t r ih => simp only [firstL]; rw [if_neg (by simp [h t (by simp)])]; exact ih fun q hq => h q (by simp [hq])
theorem swN_zero {a b t u : Tr} (ha : rFB a = true) (hb : rFB b = true) (ht : rTB t = true) (hu : rTB u = true) : swN a b t u = 0 := by
  have ha := rFB_iff.1 ha
  have hb := rFB_iff.1 hb
  have ht := rTB_iff.1 ht
  have hu := rTB_iff.1 hu
  unfold swN sortedN
  rw [if_neg (by rw [firstL_none (by simp [ha.1, hb.1, ht.1, hu.1])]; simp), if_pos (sortsB_true fun j hj => ?_)]
  have hj4 : j < 4 := hj
  rcases Nat.lt_or_ge j 2 with h1 | h1
  · rcases Nat.lt_or_ge j 1 with h2 | h2
    · obtain rfl : j = 0 := by omega
      exact ha.2
    · obtain rfl : j = 1 := by omega
      exact hb.2
  · rcases Nat.lt_or_ge j 3 with h2 | h2
    · obtain rfl : j = 2 := by omega
      exact ht.2
    · obtain rfl : j = 3 := by omega
      exact hu.2
theorem swV_zero {a b t u : Tr} (h : swN a b t u = 0) : swV a b t u = swpT t u (varsT t ||| varsT u) a b true := by unfold swV; rw [if_pos h]
set_option maxHeartbeats 4000000 in
set_option maxRecDepth 100000 in
theorem turned_law (a b t u : Tr) (A B T U : Option Addr) (ca cb ct cu : Nat) (w : World) (ha : IsT w w.heap.size a A ca) (hb : IsT w w.heap.size b B cb) (ht : IsT w w.heap.size t T ct) (hu : IsT w w.heap.size u U cu) :
    Calls Try.prog 4 #[.agg #[.int .i64 a.k, .int .i64 a.i, .slice A a.ks.length ca], .agg #[.int .i64 b.k, .int .i64 b.i, .slice B b.ks.length cb], .agg #[.int .i64 t.k, .int .i64 t.i, .slice T t.ks.length ct], .agg #[.int .i64 u.k, .int .i64 u.i, .slice U u.ks.length cu]] w fun e w' => e = .returned (.bool true) ∧ Below w.heap.size w w' := by
  have E0 := Lib.hid (env4 ha hb ht hu)
  obtain ⟨a0, a1, a2⟩ := E0.out.cells w.heap.size a A ca (by simp)
  clear ha hb ht hu
  go_enter Try.func4, Try.ntmps4
  go_wp2_with fail
  refine (risform_any a A ca _ (by exact E0.out.tree w.heap.size a A ca (by simp))).mono ?_
  rintro e w1 ⟨rfl, hb1⟩
  have E1 := Lib.hid (E0.out.keep hb1)
  clear hb1 a0 a1 a2 E0
  cases ra : rFB a with
  | false =>
    go_wp2_with fail
    go_ret
    exact ⟨rfl, E1.out.below⟩
  | true =>
  have RA := Lib.hid ra
  clear ra
  obtain ⟨b0, b1, b2⟩ := E1.out.cells (w.heap.size + 1) b B cb (by simp)
  go_wp2_with fail
  refine (risform_any b B cb _ (by exact E1.out.tree (w.heap.size + 1) b B cb (by simp))).mono ?_
  rintro e w2 ⟨rfl, hb2⟩
  have E2 := Lib.hid (E1.out.keep hb2)
  clear hb2 b0 b1 b2 E1
  cases rb : rFB b with
  | false =>
    go_wp2_with fail
    go_ret
    exact ⟨rfl, E2.out.below⟩
  | true =>
  have RB := Lib.hid rb
  clear rb
  obtain ⟨t0, t1, t2⟩ := E2.out.cells (w.heap.size + 2) t T ct (by simp)
  go_wp2_with fail
  refine (risterm_any t T ct _ (by exact E2.out.tree (w.heap.size + 2) t T ct (by simp))).mono ?_
  rintro e w3 ⟨rfl, hb3⟩
  have E3 := Lib.hid (E2.out.keep hb3)
  clear hb3 t0 t1 t2 E2
  cases rt : rTB t with
  | false =>
    go_wp2_with fail
    go_ret
    exact ⟨rfl, E3.out.below⟩
  | true =>
  have RT := Lib.hid rt
  clear rt
  obtain ⟨t0, t1, t2⟩ := E3.out.cells (w.heap.size + 3) u U cu (by simp)
  go_wp2_with fail
  refine (risterm_any u U cu _ (by exact E3.out.tree (w.heap.size + 3) u U cu (by simp))).mono ?_
  rintro e w4 ⟨rfl, hb4⟩
  have E4 := Lib.hid (E3.out.keep hb4)
  clear hb4 t0 t1 t2 E3
  cases ru : rTB u with
  | false =>
    go_wp2_with fail
    go_ret
    exact ⟨rfl, E4.out.below⟩
  | true =>
  have N1 := Lib.hid (swN_zero RA.out RA.out RT.out ru)
  have N2 := Lib.hid (swN_zero RA.out RB.out RT.out ru)
  have N3 := Lib.hid (swN_zero RB.out RA.out ru RT.out)
  have V1 := Lib.hid (show swV a a t u = true by rw [swV_zero N1.out]; exact swp_refl _ _ _ _ _)
  have V2 := Lib.hid (show swV b a u t = swV a b t u by rw [swV_zero N2.out, swV_zero N3.out, swp_back u t _ b a true, Nat.or_comm])
  clear ru
  obtain ⟨u0, u1, u2⟩ := E4.out.cells (w.heap.size + 3) u U cu (by simp)
  obtain ⟨t0, t1, t2⟩ := E4.out.cells (w.heap.size + 2) t T ct (by simp)
  obtain ⟨a0, a1, a2⟩ := E4.out.cells w.heap.size a A ca (by simp)
  go_wp2_with fail
  refine (sswapped_any a a t u A A T U ca ca ct cu _ (by exact E4.out.tree w.heap.size a A ca (by simp)) (by exact E4.out.tree w.heap.size a A ca (by simp)) (by exact E4.out.tree (w.heap.size + 2) t T ct (by simp)) (by exact E4.out.tree (w.heap.size + 3) u U cu (by simp))).mono ?_
  rintro e w5 ⟨rfl, hb5⟩
  have E5 := Lib.hid (E4.out.keep hb5)
  clear hb5 a0 a1 a2 t0 t1 t2 u0 u1 u2 E4
  rw [V1.out, N1.out]
  obtain ⟨u0, u1, u2⟩ := E5.out.cells (w.heap.size + 3) u U cu (by simp)
  obtain ⟨t0, t1, t2⟩ := E5.out.cells (w.heap.size + 2) t T ct (by simp)
  obtain ⟨b0, b1, b2⟩ := E5.out.cells (w.heap.size + 1) b B cb (by simp)
  obtain ⟨a0, a1, a2⟩ := E5.out.cells w.heap.size a A ca (by simp)
  go_wp2_with fail
  refine (sswapped_any a b t u A B T U ca cb ct cu _ (by exact E5.out.tree w.heap.size a A ca (by simp)) (by exact E5.out.tree (w.heap.size + 1) b B cb (by simp)) (by exact E5.out.tree (w.heap.size + 2) t T ct (by simp)) (by exact E5.out.tree (w.heap.size + 3) u U cu (by simp))).mono ?_
  rintro e w6 ⟨rfl, hb6⟩
  have E6 := Lib.hid (E5.out.keep hb6)
  clear hb6 a0 a1 a2 b0 b1 b2 t0 t1 t2 u0 u1 u2 E5
  rw [N2.out]
  obtain ⟨v, hv⟩ : ∃ v, v = swV a b t u := ⟨_, rfl⟩
  rw [← hv] at V2 ⊢
  clear hv
  obtain ⟨u0, u1, u2⟩ := E6.out.cells (w.heap.size + 3) u U cu (by simp)
  obtain ⟨t0, t1, t2⟩ := E6.out.cells (w.heap.size + 2) t T ct (by simp)
  obtain ⟨b0, b1, b2⟩ := E6.out.cells (w.heap.size + 1) b B cb (by simp)
  obtain ⟨a0, a1, a2⟩ := E6.out.cells w.heap.size a A ca (by simp)
  go_wp2_with fail
  refine (sswapped_any b a u t B A U T cb ca cu ct _ (by exact E6.out.tree (w.heap.size + 1) b B cb (by simp)) (by exact E6.out.tree w.heap.size a A ca (by simp)) (by exact E6.out.tree (w.heap.size + 3) u U cu (by simp)) (by exact E6.out.tree (w.heap.size + 2) t T ct (by simp))).mono ?_
  rintro e w7 ⟨rfl, hb7⟩
  have E7 := Lib.hid (E6.out.keep hb7)
  clear hb7 a0 a1 a2 b0 b1 b2 t0 t1 t2 u0 u1 u2 E6
  rw [N3.out, V2.out]
  go_wp2_with fail
  go_ret
  exact ⟨by simp, E7.out.below⟩
end Go.Proofs.Ytmmdhlemkcddmaa
namespace Go.Proofs.Ytmmdhlemkcddmaa
open Go.RowKit
set_option linter.unusedVariables false
set_option linter.unusedSimpArgs false
/-- what the law asks of what is put in -/
theorem puts_math {a t u : Tr} {x : Int} (h0 : 0 ≤ x) (h1 : x ≤ 63) (ra : rFB a = true) (rt : rTB t = true) (ru : rTB u = true) (fT : ffB x t a = true) (fU : ffB x u a = true) (et : (eachR a [(x, t)]).2 = 0) (eu : (eachR a [(x, u)]).2 = 0) :
    swN (eachR a [(x, t)]).1 (eachR a [(x, u)]).1 t u = 0 ∧ swV (eachR a [(x, t)]).1 (eachR a [(x, u)]).1 t u = true := by
  have ha := rFB_iff.1 ra
  have ht := rTB_iff.1 rt
  have hu := rTB_iff.1 ru
  have hs := (right_shp' ha.1).1
  rw [eachR_snd] at et eu
  have et' := et
  have eu' := eu
  rw [eachN_one ⟨h0, h1⟩ ha.1 ht.1 ht.2] at et'
  rw [eachN_one ⟨h0, h1⟩ ha.1 hu.1 hu.2] at eu'
  have ct : catT (varsT t) x a = 0 := by
    have := (ffB_ok h0 h1 ht.1 ha.1 ht.2).2
    rw [fT] at this
    exact of_decide_eq_true this.symm
  have cu : catT (varsT u) x a = 0 := by
    have := (ffB_ok h0 h1 hu.1 ha.1 hu.2).2
    rw [fU] at this
    exact of_decide_eq_true this.symm
  rw [if_pos ct] at et'
  rw [if_pos cu] at eu'
  have kf : ∀ q, termB (putX x q a).k = false := fun q => by
    have hk : a.k ≠ 1 := fun e => by rw [e] at ha; exact absurd ha.2 (by decide)
    by_cases hq : (a.k = 7 ∨ a.k = 10) ∧ a.i = x
    · rw [putX_quant h0 h1 hq.1 hq.2]; exact ha.2
    · rw [putX_else (fun h => hk h.1) hq]; exact ha.2
  rw [eachR_one_ok et, eachR_one_ok eu]
  have z : swN (putX x t a) (putX x u a) t u = 0 := swN_zero (rFB_iff.2 ⟨et', kf t⟩) (rFB_iff.2 ⟨eu', kf u⟩) rt ru
  exact ⟨z, by rw [swV_zero z]; exact swp_put h0 h1 t u a hs ct cu⟩
set_option maxHeartbeats 8000000 in
set_option maxRecDepth 100000 in
theorem sputs_law (a t u : Tr) (x : Int) (A T U : Option Addr) (ca ct cu : Nat) (w : World) (ha : IsT w w.heap.size a A ca) (ht : IsT w w.heap.size t T ct) (hu : IsT w w.heap.size u U cu) :
    Calls Try.prog 5 #[.agg #[.int .i64 a.k, .int .i64 a.i, .slice A a.ks.length ca], .agg #[.int .i64 t.k, .int .i64 t.i, .slice T t.ks.length ct], .agg #[.int .i64 u.k, .int .i64 u.i, .slice U u.ks.length cu], .int .i64 x] w fun e w' => e = .returned (.bool true) ∧ Below w.heap.size w w' := by
  have E0 := Lib.hid (env3 ha ht hu)
  obtain ⟨a0, a1, a2⟩ := E0.out.cells w.heap.size a A ca (by simp)
  clear ha ht hu
  go_enter Try.func5, Try.ntmps5
  go_wp2_with fail
  refine (risform_any a A ca _ (by exact E0.out.tree w.heap.size a A ca (by simp))).mono ?_
  rintro e w1 ⟨rfl, hb1⟩
  have E1 := Lib.hid (E0.out.keep hb1)
  clear hb1 a0 a1 a2 E0
  cases ra : rFB a with
  | false =>
    go_wp2_with fail
    go_ret
    exact ⟨rfl, E1.out.below⟩
  | true =>
  have RA := Lib.hid ra
  clear ra
  obtain ⟨t0, t1, t2⟩ := E1.out.cells (w.heap.size + 1) t T ct (by simp)
  go_wp2_with fail
  refine (risterm_any t T ct _ (by exact E1.out.tree (w.heap.size + 1) t T ct (by simp))).mono ?_
  rintro e w2 ⟨rfl, hb2⟩
  have E2 := Lib.hid (E1.out.keep hb2)
  clear hb2 t0 t1 t2 E1
  cases rt : rTB t with
  | false =>
    go_wp2_with fail
    go_ret
    exact ⟨rfl, E2.out.below⟩
  | true =>
  have RT := Lib.hid rt
  clear rt
  obtain ⟨u0, u1, u2⟩ := E2.out.cells (w.heap.size + 2) u U cu (by simp)
  go_wp2_with fail
  refine (risterm_any u U cu _ (by exact E2.out.tree (w.heap.size + 2) u U cu (by simp))).mono ?_
  rintro e w3 ⟨rfl, hb3⟩
  have E3 := Lib.hid (E2.out.keep hb3)
  clear hb3 u0 u1 u2 E2
  cases ru : rTB u with
  | false =>
    go_wp2_with fail
    go_ret
    exact ⟨rfl, E3.out.below⟩
  | true =>
  have RU := Lib.hid ru
  clear ru
  by_cases hx0 : x < 0
  · go_wp2_with fail
    go_ret
    exact ⟨rfl, E3.out.below⟩
  by_cases hx1 : 63 < x
  · go_wp2_with fail
    go_ret
    exact ⟨rfl, E3.out.below⟩
  obtain ⟨a0, a1, a2⟩ := E3.out.cells w.heap.size a A ca (by simp)
  obtain ⟨t0, t1, t2⟩ := E3.out.cells (w.heap.size + 1) t T ct (by simp)
  go_wp2_with fail
  refine (rfreefor_any t a x T A ct ca _ (by exact E3.out.tree (w.heap.size + 1) t T ct (by simp)) (by exact E3.out.tree w.heap.size a A ca (by simp))).mono ?_
  rintro e w4 ⟨rfl, hb4⟩
  have E4 := Lib.hid (E3.out.keep hb4)
  clear hb4 a0 a1 a2 t0 t1 t2 E3
  obtain ⟨a0, a1, a2⟩ := E4.out.cells w.heap.size a A ca (by simp)
  obtain ⟨u0, u1, u2⟩ := E4.out.cells (w.heap.size + 2) u U cu (by simp)
  go_wp2_with fail
  refine (rfreefor_any u a x U A cu ca _ (by exact E4.out.tree (w.heap.size + 2) u U cu (by simp)) (by exact E4.out.tree w.heap.size a A ca (by simp))).mono ?_
  rintro e w5 ⟨rfl, hb5⟩
  have E5 := Lib.hid (E4.out.keep hb5)
  clear hb5 a0 a1 a2 u0 u1 u2 E4
  obtain ⟨a0, a1, a2⟩ := E5.out.cells w.heap.size a A ca (by simp)
  obtain ⟨t0, t1, t2⟩ := E5.out.cells (w.heap.size + 1) t T ct (by simp)
  go_wp2_with fail
  refine (sput_any a A ca x t T ct _ (by exact E5.out.tree w.heap.size a A ca (by simp)) (by exact E5.out.tree (w.heap.size + 1) t T ct (by simp))).mono ?_
  rintro e w6 ⟨hb6, B, cb, ho6, rfl⟩
  have E6 := Lib.hid ((E5.out.keep hb6).push (AnsPost.is ho6 (eachR_fit _ _)))
  clear hb6 ho6 a0 a1 a2 t0 t1 t2 E5
  obtain ⟨a0, a1, a2⟩ := E6.out.cells w.heap.size a A ca (by simp)
  obtain ⟨u0, u1, u2⟩ := E6.out.cells (w.heap.size + 2) u U cu (by simp)
  go_wp2_with fail
  refine (sput_any a A ca x u U cu _ (by exact E6.out.tree w.heap.size a A ca (by simp)) (by exact E6.out.tree (w.heap.size + 2) u U cu (by simp))).mono ?_
  rintro e w7 ⟨hb7, C, cc, ho7, rfl⟩
  have E7 := Lib.hid ((E6.out.keep hb7).push (AnsPost.is ho7 (eachR_fit _ _)))
  clear hb7 ho7 a0 a1 a2 u0 u1 u2 E6
  have PM := Lib.hid (fun f1 f2 e1 e2 => puts_math (a := a) (t := t) (u := u) (x := x) (by omega) (by omega) RA.out RT.out RU.out f1 f2 e1 e2)
  have N0 := Lib.hid (swN_zero RA.out RA.out RT.out RU.out)
  have V0 := Lib.hid (show swV a a t u = true by rw [swV_zero N0.out]; exact swp_refl _ _ _ _ _)
  obtain ⟨f1, hf1⟩ : ∃ f, f = ffB x t a := ⟨_, rfl⟩
  obtain ⟨f2, hf2⟩ : ∃ f, f = ffB x u a := ⟨_, rfl⟩
  obtain ⟨e1, he1⟩ : ∃ e, e = (eachR a [(x, t)]).2 := ⟨_, rfl⟩
  obtain ⟨e2, he2⟩ : ∃ e, e = (eachR a [(x, u)]).2 := ⟨_, rfl⟩
  obtain ⟨b, hb⟩ : ∃ b, b = (eachR a [(x, t)]).1 := ⟨_, rfl⟩
  obtain ⟨c, hc⟩ : ∃ c, c = (eachR a [(x, u)]).1 := ⟨_, rfl⟩
  rw [← hf1, ← hf2, ← he1, ← he2, ← hb, ← hc] at PM
  rw [← hf1, ← hf2, ← he1, ← he2]
  rw [← hb, ← hc] at E7 ⊢
  clear hf1 hf2 he1 he2 hb hc
  go_upto_region 7 with fail
  go_cut [83] (fun v wc => v = .bool (!(f1 && f2 && decide (e1 = 0) && decide (e2 = 0))) ∧ Env w wc [(w7.heap.size, c, C, cc), (w6.heap.size, b, B, cb), (w.heap.size + 2, u, U, cu), (w.heap.size + 1, t, T, ct), (w.heap.size, a, A, ca)])
  case first =>
    cases f1 with
    | false =>
      go_wp2_with fail
      go_meet
      exact ⟨by simp, E7.out⟩
    | true =>
      cases f2 with
      | false =>
        go_wp2_with fail
        go_meet
        exact ⟨by simp, E7.out⟩
      | true =>
        by_cases h1 : e1 = 0
        · have h1' : ((e1 : Int) != 0) = false := by simp [h1]
          have D1 := Lib.hid (decide_eq_true h1)
          clear h1
          by_cases h2 : e2 = 0
          · have h2' : ((e2 : Int) != 0) = false := by simp [h2]
            have D2 := Lib.hid (decide_eq_true h2)
            clear h2
            go_wp2_with fail
            go_meet
            exact ⟨by rw [D1.out, D2.out]; rfl, E7.out⟩
          · have h2' : ((e2 : Int) != 0) = true := by rw [bne_iff_ne]; omega
            have D2 := Lib.hid (decide_eq_false h2)
            clear h2
            go_wp2_with fail
            go_meet
            exact ⟨by rw [D1.out, D2.out]; rfl, E7.out⟩
        · have h1' : ((e1 : Int) != 0) = true := by rw [bne_iff_ne]; omega
          have D1 := Lib.hid (decide_eq_false h1)
          clear h1
          go_wp2_with fail
          go_meet
          exact ⟨by rw [D1.out]; rfl, E7.out⟩
  case rest =>
    obtain ⟨rfl, hE⟩ := hcut
    have E8 := Lib.hid hE
    clear hE E7
    cases hg : (f1 && f2 && decide (e1 = 0) && decide (e2 = 0)) with
    | false =>
      clear hg PM
      obtain ⟨a0, a1, a2⟩ := E8.out.cells w.heap.size a A ca (by simp)
      obtain ⟨t0, t1, t2⟩ := E8.out.cells (w.heap.size + 1) t T ct (by simp)
      obtain ⟨u0, u1, u2⟩ := E8.out.cells (w.heap.size + 2) u U cu (by simp)
      go_wp2_with fail
      refine (sswapped_any a a t u A A T U ca ca ct cu _ (by exact E8.out.tree w.heap.size a A ca (by simp)) (by exact E8.out.tree w.heap.size a A ca (by simp)) (by exact E8.out.tree (w.heap.size + 1) t T ct (by simp)) (by exact E8.out.tree (w.heap.size + 2) u U cu (by simp))).mono ?_
      rintro e w9 ⟨rfl, hb9⟩
      have E9 := Lib.hid (E8.out.keep hb9)
      clear hb9 a0 a1 a2 t0 t1 t2 u0 u1 u2 E8
      rw [V0.out, N0.out]
      go_wp2_with fail
      go_ret
      exact ⟨rfl, E9.out.below⟩
    | true =>
      have hg' := hg
      simp only [Bool.and_eq_true, decide_eq_true_eq] at hg'
      have PN := Lib.hid (PM.out hg'.1.1.1 hg'.1.1.2 hg'.1.2 hg'.2)
      clear hg hg' PM
      obtain ⟨b0, b1, b2⟩ := E8.out.cells w6.heap.size b B cb (by simp)
      obtain ⟨c0, c1, c2⟩ := E8.out.cells w7.heap.size c C cc (by simp)
      obtain ⟨t0, t1, t2⟩ := E8.out.cells (w.heap.size + 1) t T ct (by simp)
      obtain ⟨u0, u1, u2⟩ := E8.out.cells (w.heap.size + 2) u U cu (by simp)
      go_wp2_with fail
      refine (sswapped_any b c t u B C T U cb cc ct cu _ (by exact E8.out.tree w6.heap.size b B cb (by simp)) (by exact E8.out.tree w7.heap.size c C cc (by simp)) (by exact E8.out.tree (w.heap.size + 1) t T ct (by simp)) (by exact E8.out.tree (w.heap.size + 2) u U cu (by simp))).mono ?_
      rintro e w9 ⟨rfl, hb9⟩
      have E9 := Lib.hid (E8.out.keep hb9)
      clear hb9 b0 b1 b2 c0 c1 c2 t0 t1 t2 u0 u1 u2 E8
      rw [PN.out.1, PN.out.2]
      go_wp2_with fail
      go_ret
      exact ⟨rfl, E9.out.below⟩
end Go.Proofs.Ytmmdhlemkcddmaa
