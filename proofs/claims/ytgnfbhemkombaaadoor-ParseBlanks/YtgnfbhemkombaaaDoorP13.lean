/- arguments of package parse, walked. -/
import Derived.Test.YtgnfbhemkombaaaDoorP12
namespace Go.Proofs.YtgnfbhemkombaaaDoor
open Go.RowKit
set_option linter.unusedVariables false
def slen : Value → Nat
  | .slice _ n _ => n
  | _ => 0
theorem own_keepR {w w' : World} {base b : Nat} {e : TypeId} {size : Nat} {v : Value} {n : Nat} {xs : List Value} (h : w.ownsRow base e size v n xs) (hk : KeepR b w w') (hb : b < base) : w'.ownsRow base e size v n xs :=
  ⟨h.1, h.2.imp id (fun ⟨g, cap, cur, a, b', c, d⟩ => ⟨g, cap, cur, a, b', (hk.block g (Array.getElem?_eq_some_iff.1 c).1 (by omega)).trans c, d⟩)⟩
/-- behind the brackets -/
theorem ArgI.done {w wr w' : World} {b : Nat} {A : Option Addr} {c : Nat} {l : List Tok} {sl z m d : Nat} {acc : List Tr} {r r' : List Tok} {A' : Option Addr} {c' k n : Nat} (hI : ArgI w wr b A c l sl z m d acc r A' c') (hb : b < w.heap.size) (hk : KeepR b wr w') (hr : Rdr w' b A c l r' sl (z + szL acc) (max m (d + dpL acc))) :
    ArgsP b A c l sl z m d w (.ok (.node k n acc) r') (.returned (.slice A' acc.length c')) w' := by
  refine ⟨hI.keep.trans hk, hr, A', acc.length, c', rfl, fun he => ⟨rfl, ?_⟩⟩
  obtain ⟨xs, h1, h2⟩ := hI.own
  obtain ⟨cs, e1, rfl, h3⟩ := h2 he
  have hob := h1.lt
  have hs := hI.keep.size
  have o : OwnT wr w.heap.size wr.heap.size (.node k n acc) A' c' := ownT_eq.2 ⟨cs, e1, h1, fun g e => (hob g e).2, h3⟩
  exact (OwnT.same _ (fun x x1 x2 => hk.block x x2 (by omega)) o).widen hk.size
set_option maxHeartbeats 8000000 in
set_option maxRecDepth 100000 in
theorem args_any (f : Nat) (hT : TermC f) (k n b : Nat) (A : Option Addr) (c : Nat) (l rest : List Tok) (sl z m d : Nat) (w : World) (hf : 2 * rest.length + 1 ≤ f) (hl : l.length ≤ 8000) (hd : d + 2 * rest.length + 2 ≤ 40000) (hz : z + rest.length ≤ 20000) (hdm : d ≤ m) (h : Rdr w b A c l rest sl z m) :
    Calls Tryd.prog 75 #[.pointer (some ⟨b, 0, none⟩), .int .i64 (d : Int)] w (ArgsP b A c l sl z m d w (argsP (termP f) k n rest)) := by
  have H := Lib.hid h
  have HT := Lib.hid hT
  have hbw := h.lt
  have hA : ∀ g, A = some ⟨g, 0, none⟩ → l ≠ [] → g < w.heap.size := fun g e hne => by
    obtain ⟨g', e', _, h2, _⟩ := h.toks 0 (List.length_pos_iff.2 hne)
    rw [e] at e'
    cases e'
    exact h2
  have HA := Lib.hid hA
  clear h hT hA
  obtain ⟨i0, hi, hz0, hz1, hz2⟩ := info_parts infoE
  have HI := Lib.hid (And.intro hi (And.intro hz0 (And.intro hz1 hz2)))
  clear hi hz0 hz1 hz2
  cases hs : stands 40 rest with
  | false =>
    have P := Lib.hid (show argsP (termP f) k n rest = .ok (.node k n []) rest by unfold argsP; rw [hs]; rfl)
    go_enter Tryd.func75, Tryd.ntmps75
    go_wp2_with fail
    refine (stands_any 40 w H.out hl).mono ?_
    rintro e w1 ⟨rfl, hb1⟩
    rw [hs]
    go_wp2_with fail
    go_ret
    rw [P.out]
    refine ⟨KeepR.of_below hb1, ?_, none, 0, 0, rfl, fun _ => ⟨rfl, ownT_leaf _ _ _ hb1.size _ rfl⟩⟩
    have := H.out.keep hb1
    simpa [Tr.ks, szL, dpL, show max m d = m by omega] using this
  | true =>
    obtain ⟨x, r1, rfl, hx4, hx40⟩ := stands_cons hs
    have P := Lib.hid (show argsP (termP f) k n (x :: r1) = match termP f r1 with | .bad r' => .bad r' | .ok t r2 => contP (termP f) k n [t] r2 by
      unfold argsP; rw [if_pos hs]; exact argsL_cont (termP f) k n 3 [] r1 rfl)
    have SZ := Lib.hid (termP_sz f)
    simp only [List.length_cons] at hf hd hz
    go_enter Tryd.func75, Tryd.ntmps75
    go_wp2_with fail
    refine (stands_any 40 w H.out hl).mono ?_
    rintro e w1 ⟨rfl, hb1⟩
    rw [hs]
    have hw := H.out.keep hb1
    obtain ⟨nx, hn, c1, R⟩ := hw.take hl
    have f1 := hw.frozen 1
    have RR := Lib.hid R
    have K1 := Lib.hid ((KeepR.of_below (b := b) hb1).trans (KeepR.set b 1 w1 (.int .i64 ((nx : Int) + 1))))
    clear hw R
    have hd1 : ((d + 1 : Nat) : Int) = (d : Int) + 1 := by omega
    have TC := Lib.hid (HT.out b A c l r1 sl z m (d + 1) (w1.setCell ⟨b, 1, none⟩ (.int .i64 ((nx : Int) + 1))) (by omega) hl (by omega) (by omega) RR.out)
    rw [hd1] at TC
    cases hP : termP f r1 with
    | bad r' =>
      rw [hP] at TC P
      go_wp2_with fail
      refine TC.out.mono ?_
      rintro e w2 ⟨hk2, rfl⟩
      go_wp2_with fail
      refine ⟨rfl, ?_⟩
      rw [P.out]
      exact ⟨K1.out.trans hk2, rfl⟩
    | ok q r2 =>
      have hsz := SZ.out _ _ _ hP
      rw [hP] at TC P
      go_wp2_with fail
      refine TC.out.mono ?_
      rintro e w2 ⟨hk2, hr2, v, rfl, x1, y1, A2, n2, c2, rfl, hv⟩
      have ONE := Lib.hid (ArgI.one (d := d) K1.out hk2 hr2 hv)
      clear hk2 hr2 hv TC
      go_wp2_with fail
      go_loopw [5] (fun v wr => ∃ (acc : List Tr) (r : List Tok) (A' : Option Addr) (c' : Nat), v = .slice A' acc.length c' ∧ ArgI w wr b A c l sl z m d acc r A' c' ∧ argsP (termP f) k n (x :: r1) = contP (termP f) k n acc r ∧ acc.length ≤ 4 ∧ szL acc + r.length ≤ r1.length) (fun v _ => 5 - slen v)
      case atStart => exact ⟨[q], r2, _, 1, rfl, ONE.out, P.out, by simp, by simp [szL]; omega⟩
      case round =>
        obtain ⟨acc, r, A', c', rfl, hI, hC, ha4, hszr⟩ := hrel
        have AI := Lib.hid hI
        have CN := Lib.hid hC
        clear hI hC ONE RR K1
        by_cases h4 : acc.length < 4
        · have h4' : (acc.length : Int) < 4 := by omega
          cases hcm : stands 44 r with
          | true =>
            have PC := Lib.hid (contP_comma (T := termP f) (k := k) (n := n) h4 hcm)
            obtain ⟨y, r', rfl, _, _⟩ := stands_cons hcm
            simp only [List.tail_cons] at PC
            simp only [List.length_cons] at hszr
            go_wp2_with fail
            refine (stands_any 44 wr AI.out.rdr hl).mono ?_
            rintro e w3 ⟨rfl, hb3⟩
            rw [hcm]
            have hw := AI.out.rdr.keep hb3
            obtain ⟨nx', hn', c1', R⟩ := hw.take hl
            have f1' := hw.frozen 1
            have RR := Lib.hid R
            have K3 := Lib.hid ((KeepR.of_below (b := b) hb3).trans (KeepR.set b 1 w3 (.int .i64 ((nx' : Int) + 1))))
            clear hw R
            have TC := Lib.hid (HT.out b A c l r' sl (z + szL acc) (max m (d + dpL acc)) (d + 1) (w3.setCell ⟨b, 1, none⟩ (.int .i64 ((nx' : Int) + 1))) (by omega) hl (by omega) (by omega) RR.out)
            rw [hd1] at TC
            cases hP3 : termP f r' with
            | bad r'' =>
              rw [hP3] at TC PC
              go_wp2_with fail
              refine TC.out.mono ?_
              rintro e w5 ⟨hk5, rfl⟩
              go_wp2_with fail
              refine ⟨rfl, ?_⟩
              rw [CN.out, PC.out]
              exact ⟨(AI.out.keep.trans K3.out).trans hk5, rfl⟩
            | ok q' r3 =>
              have hsz3 := SZ.out _ _ _ hP3
              rw [hP3] at TC PC
              obtain ⟨xs, hxs⟩ := AI.out.own
              go_wp2_with fail
              refine TC.out.mono ?_
              rintro e w5 ⟨hk5, hr5, v5, rfl, x5, y5, A5, n5, c5, rfl, hv5⟩
              have OW := Lib.hid (fun o => own_keepR (own_keepR hxs.1 (K3.out.trans hk5) hbw) (KeepR.of_below (b := b) ((Below.refl _ w5).alloc (Nat.le_refl _) o)) hbw)
              have hs5 : w.heap.size ≤ w5.heap.size := Nat.le_trans AI.out.keep.size (K3.out.trans hk5).size
              have MORE := Lib.hid (fun w4 g cap => @ArgI.more w wr _ w5 w4 b A c l sl z m d acc r3 (y :: r') A' c' q' x5 y5 A5 n5 c5 g cap xs AI.out hbw HA.out hxs K3.out hk5 hr5 hv5)
              clear hk5 hr5 hv5 TC hxs
              go_wp2_with (at_builtin; refine wpList_append_lies _ (by rfl) _ _ _ (by rfl) w.heap.size 24 i0 _ 3 40 Tryd.underlying22 HI.out.1 HI.out.2.1 HI.out.2.2.1 HI.out.2.2.2 (by rfl) (by omega) _ acc.length xs (by rfl) (by exact OW.out _) ⟨w5.heap.size, 0, none⟩ 1 1 [.int .i64 x5, .int .i64 y5, .slice A5 n5 c5] (by rfl) (by rfl) (by exact new3b _ _ _ _ _) (by simp [Value.oneCell']) (by omega) (by unfold maxLen; omega) (by omega) (by simp; omega) (w5.heap.size + 1) (by simp) ?_; intro g cap w4 hown4 hgrow hat hlt4; have NI := Lib.hid (MORE.out w4 g cap hown4 hgrow hat); clear hown4 hgrow hat hlt4)
              go_roundw
              case rel => exact ⟨acc ++ [q'], r3, _, cap, by simp, NI.out, by rw [CN.out, PC.out], by simp; omega, by rw [szL_snoc]; omega⟩
              case measure => simp [slen]; omega
          | false =>
            have HNE : ¬ (acc.length < 4 ∧ stands 44 r = true) := fun x => by rw [hcm] at x; cases x.2
            have PE := Lib.hid (contP_end (T := termP f) (k := k) (n := n) (acc := acc) (r := r) HNE)
            cases hcl : stands 41 r with
            | true =>
              rw [hcl] at PE
              obtain ⟨y, r', rfl, _, _⟩ := stands_cons hcl
              go_wp2_with fail
              refine (stands_any 44 wr AI.out.rdr hl).mono ?_
              rintro e w3 ⟨rfl, hb3⟩
              rw [hcm]
              have RD := Lib.hid (AI.out.rdr.keep hb3)
              have KB := Lib.hid (KeepR.of_below (b := b) hb3)
              go_wp2_with fail
              refine (expect_yes 41 y _ RD.out hl hcl).mono ?_
              rintro e w6 ⟨rfl, hr6, hk6⟩
              go_wp2_with fail
              go_ret
              rw [CN.out, PE.out]
              exact AI.out.done hbw (KB.out.trans hk6) hr6
            | false =>
              rw [hcl] at PE
              go_wp2_with fail
              refine (stands_any 44 wr AI.out.rdr hl).mono ?_
              rintro e w3 ⟨rfl, hb3⟩
              rw [hcm]
              have RD := Lib.hid (AI.out.rdr.keep hb3)
              have KB := Lib.hid (KeepR.of_below (b := b) hb3)
              go_wp2_with fail
              refine (expect_no 41 _ RD.out hl hcl).mono ?_
              rintro e w6 ⟨rfl, hk6⟩
              go_wp2_with fail
              refine ⟨rfl, ?_⟩
              rw [CN.out, PE.out]
              exact ⟨AI.out.keep.trans (KB.out.trans hk6), rfl⟩
        · have h4' : ¬ (acc.length : Int) < 4 := by omega
          have HNE : ¬ (acc.length < 4 ∧ stands 44 r = true) := fun x => h4 x.1
          have PE := Lib.hid (contP_end (T := termP f) (k := k) (n := n) (acc := acc) (r := r) HNE)
          cases hcl : stands 41 r with
          | true =>
            rw [hcl] at PE
            obtain ⟨y, r', rfl, _, _⟩ := stands_cons hcl
            have RD := AI.out.rdr
            have RD := Lib.hid RD
            have KB := Lib.hid (KeepR.refl b wr)
            go_wp2_with fail
            refine (expect_yes 41 y _ RD.out hl hcl).mono ?_
            rintro e w6 ⟨rfl, hr6, hk6⟩
            go_wp2_with fail
            go_ret
            rw [CN.out, PE.out]
            exact AI.out.done hbw (KB.out.trans hk6) hr6
          | false =>
            rw [hcl] at PE
            have RD := AI.out.rdr
            have RD := Lib.hid RD
            have KB := Lib.hid (KeepR.refl b wr)
            go_wp2_with fail
            refine (expect_no 41 _ RD.out hl hcl).mono ?_
            rintro e w6 ⟨rfl, hk6⟩
            go_wp2_with fail
            refine ⟨rfl, ?_⟩
            rw [CN.out, PE.out]
            exact ⟨AI.out.keep.trans (KB.out.trans hk6), rfl⟩
end Go.Proofs.YtgnfbhemkombaaaDoor
