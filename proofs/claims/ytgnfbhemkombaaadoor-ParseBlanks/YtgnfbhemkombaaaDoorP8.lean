/- The document's Tokens of layer 3. -/
import Derived.Test.YtgnfbhemkombaaaDoorP7
namespace Go.Proofs.YtgnfbhemkombaaaDoor
open Go.RowKit
set_option linter.unusedVariables false
set_option linter.unusedSimpArgs false
/-- i bytes are through, and gave acc -/
structure RTI (w wr : World) (s : ByteArray) (v : Value) (acc : List Tok) (i : Nat) : Prop where
  own : wr.ownsRow w.heap.size 37 3 v acc.length (tokC acc)
  below : Below w.heap.size w wr
  lex : lexN 0 (bytesN s) = (lexN i ((bytesN s).drop i)).pre acc
  le : i ≤ s.size
  len : acc.length ≤ i
theorem RTI.blank {w wr : World} {s : ByteArray} {v : Value} {acc : List Tok} {i : Nat} (h : RTI w wr s v acc i) (hp : i < s.size) (hc : stepN s[i].toNat ((bytesN s).drop (i + 1)) = .blank) : RTI w wr s v acc (i + 1) :=
  ⟨h.own, h.below, by rw [h.lex, drop_get s i hp, lexN_blank hc], hp, by have := h.len; omega⟩
theorem RTI.err {w wr : World} {s : ByteArray} {v : Value} {acc : List Tok} {i c : Nat} (h : RTI w wr s v acc i) (hp : i < s.size) (hc : stepN s[i].toNat ((bytesN s).drop (i + 1)) = .err c) : lexN 0 (bytesN s) = .bad c i := by
  rw [h.lex, drop_get s i hp, lexN_err hc]; rfl
theorem RTI.tok {w wr w4 : World} {s : ByteArray} {v v' : Value} {acc : List Tok} {i k n z : Nat} (h : RTI w wr s v acc i) (hp : i < s.size) (hc : stepN s[i].toNat ((bytesN s).drop (i + 1)) = .tok k n z)
    (ho : w4.ownsRow w.heap.size 37 3 v' (acc.length + 1) (tokC acc ++ [.int .i64 (k : Int), .int .i64 (n : Int), .int .i64 (i : Int)])) (hb : Below w.heap.size w w4) : RTI w w4 s v' (acc ++ [⟨k, n, i⟩]) (i + 1 + z) := by
  obtain ⟨hz, _⟩ := stepN_z hc
  rw [List.length_drop, bytesN_len] at hz
  have hl := h.len
  refine ⟨by rw [tokC_snoc]; simpa using ho, hb, ?_, by omega, by simp; omega⟩
  rw [h.lex, drop_get s i hp, lexN_tok hc, LexR.pre_pre, List.drop_drop]
set_option maxHeartbeats 4000000 in
set_option maxRecDepth 100000 in
theorem rtokens_any (s : ByteArray) (w : World) (hs : s.size ≤ maxLen) :
    Calls Tryd.prog 32 #[.string s] w (ToksPost w (lexAll (bytesN s))) := by
  unfold maxLen at hs
  by_cases hbig : 8000 < s.size
  · have L := Lib.hid (show lexAll (bytesN s) = .bad 2 0 by unfold lexAll; rw [if_pos (by rw [bytesN_len]; exact hbig)])
    have hb' : (8000 : Int) < (s.size : Int) := by omega
    go_enter Tryd.func32, Tryd.ntmps32
    go_wp2_with fail
    go_ret3
    exact ⟨Below.refl _ _, by rw [L.out]; rfl⟩
  · have L := Lib.hid (show lexAll (bytesN s) = lexN 0 (bytesN s) by unfold lexAll; rw [if_neg (by rw [bytesN_len]; exact hbig)])
    have hb' : ¬ (8000 : Int) < (s.size : Int) := by omega
    have hs8 : s.size ≤ 8000 := by omega
    obtain ⟨i0, hi, hz0, hz1, hz2⟩ := info_parts infoT
    have HI := Lib.hid (And.intro hi (And.intro hz0 (And.intro hz1 hz2)))
    clear hi hz0 hz1 hz2 hbig
    go_enter Tryd.func32, Tryd.ntmps32
    go_wp2_with fail
    go_loopw [5, 6] (fun v n wr => ∃ (acc : List Tok) (i : Nat), n = .int .i64 (i : Int) ∧ RTI w wr s v acc i) (fun _ n _ => s.size - (intOf n).toNat)
    case atStart =>
      refine ⟨[], 0, rfl, ?_, (Below.refl _ w).alloc (Nat.le_refl _) _, by simp [LexR.pre_nil], Nat.zero_le _, Nat.zero_le _⟩
      exact ⟨rfl, .inr ⟨w.heap.size, 0, #[], rfl, Nat.le_refl _, World.alloc_heap_new w _, Nat.le_refl _, Nat.zero_le _, rfl, rfl⟩⟩
    case round =>
      obtain ⟨acc, i, rfl, hI⟩ := hrel
      have RI' := Lib.hid hI
      have hlen := hI.len
      have hile := hI.le
      have hbw := hI.below
      clear hI
      by_cases hlt : i < s.size
      · have g1 : (i : Int) < (s.size : Int) := by omega
        obtain ⟨c, hc⟩ : ∃ c, c = s[i].toNat := ⟨_, rfl⟩
        have hx : (s[i].toNat : Int) = (c : Int) := by rw [hc]
        have hc256 : c < 256 := by rw [hc]; exact (s[i]).toNat_lt
        by_cases hbk : c = 32 ∨ c = 9
        · have NX := Lib.hid (RI'.out.blank hlt (by rw [← hc]; exact stepN_blank hbk _))
          have hb32 : (((c : Int) == 32) = true) ∨ (((c : Int) == 32) = false ∧ ((c : Int) == 9) = true) := by
            rcases hbk with rfl | rfl
            · exact .inl rfl
            · exact .inr ⟨rfl, rfl⟩
          clear hc hbk
          rcases hb32 with e1 | ⟨e1, e2⟩
          all_goals
            go_wp2_with fail
            go_roundw
            case rel => exact ⟨acc, i + 1, by go_num, NX.out⟩
            case measure => simp [intOf]; omega
        · have e1 : ((c : Int) == 32) = false := by rw [beq_eq_false_iff_ne]; omega
          have e2 : ((c : Int) == 9) = false := by rw [beq_eq_false_iff_ne]; omega
          cases hS : isSignT c with
          | true =>
            have ST := Lib.hid (show stepN s[i].toNat ((bytesN s).drop (i + 1)) = .tok 4 c 0 by rw [← hc]; unfold stepN; rw [if_neg hbk, if_pos hS])
            clear hc hbk
            go_wp2_with (first
              | (go_at_call 59; refine (risSign_any c _).mono ?_; rintro e2 w1 ⟨rfl, hb1⟩; rw [hS]; have O2 := Lib.hid (fun o => own_still (own_still RI'.out.own hb1) ((Below.refl _ w1).alloc (Nat.le_refl _) o)); have hz1 := Nat.le_trans hbw.size hb1.size; have B1 := Lib.hid (hbw.trans (hb1.mono hbw.size)); clear hb1)
              | (at_builtin; refine wpList_append_lies _ (by rfl) _ _ _ (by rfl) w.heap.size 37 i0 _ 3 24 Tryd.underlying33 HI.out.1 HI.out.2.1 HI.out.2.2.1 HI.out.2.2.2 (by rfl) (by omega) _ acc.length (tokC acc) (by rfl) (by exact O2.out _) ⟨w1.heap.size, 0, none⟩ 1 1 [.int .i64 4, .int .i64 (c : Int), .int .i64 (i : Int)] (by rfl) (by rfl) (by exact new3b _ _ _ _ _) (by simp [Value.oneCell']) (by omega) (by unfold maxLen; omega) (by omega) (by simp; omega) (w1.heap.size + 1) (by simp) ?_; intro g cap w4 hown4 hgrow hat hlt4; have O4 := Lib.hid hown4; have G4 := Lib.hid hgrow; clear hown4 hgrow hat hlt4))
            have OB := RI'.out.own.lt
            have b4 : Below w.heap.size w w4 := (B1.out.trans (((Below.refl w1.heap.size w1).alloc (Nat.le_refl _) _).mono hz1)).grown G4.out (by simp; omega) (fun k e => (OB k e).1)
            have NX := Lib.hid (RI'.out.tok (w4 := w4) (k := 4) (n := c) (z := 0) hlt ST.out O4.out b4)
            clear b4 OB
            go_roundw
            case rel => exact ⟨_, i + 1, by go_num, NX.out⟩
            case measure => simp [intOf]; omega
          | false =>
            cases hL : letterN c with
            | none =>
              have R := Lib.hid (show lexAll (bytesN s) = .bad 30 i by rw [L.out]; exact RI'.out.err hlt (by rw [← hc]; unfold stepN; rw [if_neg hbk, if_neg (by simp [hS]), hL]))
              have MV := Lib.hid (mostV_none hL)
              clear hc hbk hL
              go_wp2_with (first
                | (go_at_call 59; refine (risSign_any c _).mono ?_; rintro e2 w1 ⟨rfl, hb1⟩; rw [hS]; have O2 := Lib.hid (fun o => own_still (own_still RI'.out.own hb1) ((Below.refl _ w1).alloc (Nat.le_refl _) o)); have hz1 := Nat.le_trans hbw.size hb1.size; have B1 := Lib.hid (hbw.trans (hb1.mono hbw.size)); clear hb1)
                | (go_at_call 60; refine (rmost_any c _ hc256).mono ?_; rintro e2 w2 ⟨rfl, rfl⟩; rw [MV.out]))
              go_ret3
              exact ⟨B1.out, by rw [R.out]; rfl⟩
            | some km =>
              obtain ⟨k, m⟩ := km
              have MV := Lib.hid (mostV_some hL)
              obtain ⟨_, hm99, hk1, hk3, _⟩ := letter_some hL
              have KO := Lib.hid (fun W => rkindOf_any c k m W hL)
              have DG := Lib.hid (fun W => rdigits_any s (i + 1) W hs8 (by omega))
              have hdl := digsN_le ((bytesN s).drop (i + 1))
              rw [List.length_drop, bytesN_len] at hdl
              have hdd := digsN_dig ((bytesN s).drop (i + 1))
              have MO := Lib.hid (show ∀ W : World, Calls Tryd.prog 60 #[.int .u8 (c : Int)] W fun e w' => e = .returned (.int .i64 (m : Int)) ∧ w' = W from fun W => (rmost_any c W hc256).mono fun e w' h => ⟨by rw [h.1, MV.out], h.2⟩)
              rw [show ((i + 1 : Nat) : Int) = (i : Int) + 1 by omega] at DG
              have hmm : ¬ (m : Int) < 0 := by omega
              have NUW := Lib.hid (fun (d : Nat) (hd : d = digsN ((bytesN s).drop (i + 1))) (W : World) => by
                have hsub := bytesN_sub s (i + 1) (i + 1 + d) (by omega)
                rw [show i + 1 + d - (i + 1) = d by omega] at hsub
                have := rnumber_any (s.extract (i + 1) (i + 1 + d)) m W (by simp; omega) hm99 (by
                  rw [hsub]
                  intro x hx
                  obtain ⟨j, hj, rfl⟩ := List.getElem_of_mem hx
                  rw [List.getElem_take]
                  exact hdd j (by simp at hj; omega) (by simp at hj ⊢; omega))
                rw [hsub] at this
                exact this)
              cases hN : numN (((bytesN s).drop (i + 1)).take (digsN ((bytesN s).drop (i + 1)))) m with
              | none =>
                have R := Lib.hid (show lexAll (bytesN s) = .bad 31 i by rw [L.out]; exact RI'.out.err hlt (by rw [← hc]; unfold stepN; rw [if_neg hbk, if_neg (by simp [hS]), hL]; simp only [hN]))
                have NV := Lib.hid (show numV (((bytesN s).drop (i + 1)).take (digsN ((bytesN s).drop (i + 1)))) m = -1 by unfold numV; rw [hN])
                obtain ⟨d, hd⟩ : ∃ d, d = digsN ((bytesN s).drop (i + 1)) := ⟨_, rfl⟩
                have NU := Lib.hid (NUW.out d hd)
                rw [← hd] at NV DG hdl
                rw [NV.out] at NU
                clear hc hbk hL hN hd hdd NUW NV
                have h1d : i + 1 + d ≤ s.size := by omega
                go_wp2_with (first
                  | (go_at_call 59; refine (risSign_any c _).mono ?_; rintro e2 w1 ⟨rfl, hb1⟩; rw [hS]; have O2 := Lib.hid (fun o => own_still (own_still RI'.out.own hb1) ((Below.refl _ w1).alloc (Nat.le_refl _) o)); have hz1 := Nat.le_trans hbw.size hb1.size; have B1 := Lib.hid (hbw.trans (hb1.mono hbw.size)); clear hb1)
                  | (go_at_call 60; refine (MO.out _).mono ?_; rintro e2 w9 ⟨rfl, hw9⟩; rw [hw9]; clear hw9)
                  | (go_at_call 61; refine (DG.out _).mono ?_; rintro e2 w9 ⟨rfl, hw9⟩; rw [hw9]; clear hw9))
                have x1 : IntKind.i64.wrap ((i : Int) + 1) = (i : Int) + 1 := IntWalk.i64_in _ (by omega)
                have x2 : IntKind.i64.wrap ((i : Int) + 1 + (d : Int)) = (i : Int) + 1 + (d : Int) := IntWalk.i64_in _ (by omega)
                have x3 : ((i : Int) + 1).toNat = i + 1 := by omega
                have x4 : ((i : Int) + 1 + (d : Int)).toNat = i + 1 + d := by omega
                have x5 : (0 : Int) ≤ (i : Int) + 1 := by omega
                have x6 : (i : Int) + 1 ≤ (i : Int) + 1 + (d : Int) := by omega
                have x7 : (i : Int) + 1 + (d : Int) ≤ (s.size : Int) := by omega
                have x8 : i + 1 ≤ i + 1 + d := by omega
                go_quiet ((first
                  | (go_at_call 60; exact Calls.quiet_of_same (MO.out _))
                  | (go_at_call 62; exact Calls.quiet_of_same (NU.out _))))
                clear x1 x2 x3 x4 x5 x6 x7 x8
                go_wp2_with fail
                go_ret3
                exact ⟨below_drewN B1.out _, by rw [R.out]; rfl⟩
              | some n =>
                have ST := Lib.hid (show stepN s[i].toNat ((bytesN s).drop (i + 1)) = .tok k n (digsN ((bytesN s).drop (i + 1))) by rw [← hc]; unfold stepN; rw [if_neg hbk, if_neg (by simp [hS]), hL]; simp only [hN])
                have NV := Lib.hid (show numV (((bytesN s).drop (i + 1)).take (digsN ((bytesN s).drop (i + 1)))) m = (n : Int) by unfold numV; rw [hN])
                have hnm := (numN_some hN).2
                obtain ⟨d, hd⟩ : ∃ d, d = digsN ((bytesN s).drop (i + 1)) := ⟨_, rfl⟩
                have NU := Lib.hid (NUW.out d hd)
                rw [← hd] at NV DG hdl ST
                rw [NV.out] at NU
                have hnn : ¬ (n : Int) < 0 := by omega
                clear hc hbk hL hN hd hdd NUW NV
                have h1d : i + 1 + d ≤ s.size := by omega
                go_wp2_with (first
                  | (go_at_call 59; refine (risSign_any c _).mono ?_; rintro e2 w1 ⟨rfl, hb1⟩; rw [hS]; have O2 := Lib.hid (fun o => own_still (own_still RI'.out.own hb1) ((Below.refl _ w1).alloc (Nat.le_refl _) o)); have hz1 := Nat.le_trans hbw.size hb1.size; have B1 := Lib.hid (hbw.trans (hb1.mono hbw.size)); clear hb1)
                  | (go_at_call 60; refine (MO.out _).mono ?_; rintro e2 w9 ⟨rfl, hw9⟩; rw [hw9]; clear hw9)
                  | (go_at_call 61; refine (DG.out _).mono ?_; rintro e2 w9 ⟨rfl, hw9⟩; rw [hw9]; clear hw9))
                have x1 : IntKind.i64.wrap ((i : Int) + 1) = (i : Int) + 1 := IntWalk.i64_in _ (by omega)
                have x2 : IntKind.i64.wrap ((i : Int) + 1 + (d : Int)) = (i : Int) + 1 + (d : Int) := IntWalk.i64_in _ (by omega)
                have x3 : ((i : Int) + 1).toNat = i + 1 := by omega
                have x4 : ((i : Int) + 1 + (d : Int)).toNat = i + 1 + d := by omega
                have x5 : (0 : Int) ≤ (i : Int) + 1 := by omega
                have x6 : (i : Int) + 1 ≤ (i : Int) + 1 + (d : Int) := by omega
                have x7 : (i : Int) + 1 + (d : Int) ≤ (s.size : Int) := by omega
                have x8 : i + 1 ≤ i + 1 + d := by omega
                go_quiet ((first
                  | (go_at_call 60; exact Calls.quiet_of_same (MO.out _))
                  | (go_at_call 62; exact Calls.quiet_of_same (NU.out _))))
                clear x1 x2 x3 x4 x5 x6 x7 x8
                have O3 : ∀ o, ((w1.drewN nq).alloc o).ownsRow w.heap.size 37 3 _ acc.length (tokC acc) := fun o => O2.out o
                have B3 : Below w.heap.size w (w1.drewN nq) := below_drewN B1.out _
                have z3 : w.heap.size ≤ (w1.drewN nq).heap.size := hz1
                clear O2 B1 hz1
                generalize w1.drewN nq = w2 at O3 B3 z3 ⊢
                have O2 := Lib.hid O3
                have B1 := Lib.hid B3
                clear O3 B3
                go_wp2_with (first
                  | (go_at_call 63; refine (KO.out _).mono ?_; rintro e2 w9 ⟨rfl, hw9⟩; rw [hw9]; clear hw9)
                  | (at_builtin; refine wpList_append_lies _ (by rfl) _ _ _ (by rfl) w.heap.size 37 i0 _ 3 24 Tryd.underlying33 HI.out.1 HI.out.2.1 HI.out.2.2.1 HI.out.2.2.2 (by rfl) (by omega) _ acc.length (tokC acc) (by rfl) (by exact O2.out _) ⟨w2.heap.size, 0, none⟩ 1 1 [.int .i64 (k : Int), .int .i64 (n : Int), .int .i64 (i : Int)] (by rfl) (by rfl) (by exact new3b _ _ _ _ _) (by simp [Value.oneCell']) (by omega) (by unfold maxLen; omega) (by omega) (by simp; omega) (w2.heap.size + 1) (by simp) ?_; intro g cap w4 hown4 hgrow hat hlt4; have O4 := Lib.hid hown4; have G4 := Lib.hid hgrow; clear hown4 hgrow hat hlt4))
                have OB := RI'.out.own.lt
                have b4 : Below w.heap.size w w4 := (B1.out.trans (((Below.refl w2.heap.size w2).alloc (Nat.le_refl _) _).mono z3)).grown G4.out (by simp; omega) (fun k e => (OB k e).1)
                have NX := Lib.hid (RI'.out.tok (w4 := w4) (k := k) (n := n) (z := d) hlt ST.out O4.out b4)
                clear b4 OB
                go_roundw
                case rel => exact ⟨_, i + 1 + d, by go_num, NX.out⟩
                case measure => simp [intOf]; omega
      · obtain rfl : i = s.size := by omega
        have R := Lib.hid (show lexAll (bytesN s) = .ok acc by
          rw [L.out, RI'.out.lex, List.drop_of_length_le (by rw [bytesN_len]; exact Nat.le_refl _), lexN_nil]
          simp [LexR.pre])
        go_wp2_with fail
        go_ret3
        refine ⟨hbw, ?_⟩
        rw [R.out]
        exact ⟨_, rfl, RI'.out.own⟩
end Go.Proofs.YtgnfbhemkombaaaDoor
