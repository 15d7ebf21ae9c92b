/- RN, RP, RS, RT, RU, one behind the other. -/
import Derived.Test.YtcjfaajceipenaaGreatSQ
import Derived.Test.YtcjfaajceipenaaGreatRZ1
import Derived.Test.YtcjfaajceipenaaGreatRZB
import Derived.Test.YtcjfaajceipenaaGreatSX
import Derived.Test.YtcjfaajceipenaaGreatRZA
namespace Go.Proofs.YtcjfaajceipenaaGreat
open Go.RowKit
set_option linter.unusedVariables false
set_option linter.unusedSimpArgs false
theorem guessK_any (n : Nat) (h1 : 1 ≤ n) (h7 : n ≤ 7) (t : Tr) (A : Option Addr) (c : Nat) (w : World) (ht : IsT w w.heap.size t A c) :
    Calls Tryz.prog 22 #[.int .i64 (n : Int), .agg #[.int .i64 t.k, .int .i64 t.i, .slice A t.ks.length c]] w (GuessP w (guessV n t)) := by
  have hk : n = 1 ∨ n = 2 ∨ n = 3 ∨ n = 4 ∨ n = 5 ∨ n = 6 ∨ n = 7 := by omega
  rcases hk with rfl | rfl | rfl | rfl | rfl | rfl | rfl
  · exact guess1_any t A c w ht
  · exact guess2_any t A c w ht
  · exact guess3_any t A c w ht
  · exact guess4_any t A c w ht
  · exact guess5_any t A c w ht
  · exact guess6_any t A c w ht
  · exact guess7_any t A c w ht
end Go.Proofs.YtcjfaajceipenaaGreat
namespace Go.Proofs.YtcjfaajceipenaaGreat
open Go.RowKit
set_option linter.unusedVariables false
set_option linter.unusedSimpArgs false
set_option maxHeartbeats 8000000 in
set_option maxRecDepth 100000 in
theorem rparts7_any (k : Int) (t : Tr) (A : Option Addr) (c : Nat) (w : World) (ht : IsT w w.heap.size t A c) :
    Calls Tryz.prog 8 #[.int .i64 k, .agg #[.int .i64 t.k, .int .i64 t.i, .slice A t.ks.length c]] w (PartsI w (partsR (partsD k.toNat t) k t)) := by
  have S0 := Lib.hid (SB.start w t A c)
  have HT := Lib.hid ht
  have TT := Lib.hid (fun (W : World) (h : SB w W t A c) => (ht.keep h.bel h.bel.size : IsT W W.heap.size t A c))
  clear ht
  obtain ⟨x0, x1, x2⟩ := S0.out.xb.cells
  obtain ⟨r0, r1⟩ := S0.out.rb.cells
  have f0 := S0.out.rb.frozen 0
  have f1 := S0.out.rb.frozen 1
  by_cases hk1 : k < 1
  · have R := Lib.hid (show partsR (partsD k.toNat t) k t = (none, 70) from if_pos (fun h => by omega))
    go_enter Tryz.func8, Tryz.ntmps8
    go_wp2_with fail
    exact bodyPost_ret (v := .tuple #[.agg #[.slice none 0 0, .int .i64 0], .int .i64 70]) (by simp [results, Tryz.results8, go_sem, r0, r1]) rfl (partsI_plain R.out S0.out.bel)
  · by_cases hk7 : 7 < k
    · have R := Lib.hid (show partsR (partsD k.toNat t) k t = (none, 70) from if_pos (fun h => by omega))
      go_enter Tryz.func8, Tryz.ntmps8
      go_wp2_with fail
      exact bodyPost_ret (v := .tuple #[.agg #[.slice none 0 0, .int .i64 0], .int .i64 70]) (by simp [results, Tryz.results8, go_sem, r0, r1]) rfl (partsI_plain R.out S0.out.bel)
    · obtain ⟨n, rfl⟩ : ∃ n : Nat, k = n := ⟨k.toNat, by omega⟩
      have h1 : 1 ≤ n := by omega
      have h7 : n ≤ 7 := by omega
      have R0 := Lib.hid (show partsR (partsD (n : Int).toNat t) (n : Int) t = if wantFN t ≠ 0 then (none, wantFN t) else match partsD n t with | none => (none, 73) | some q => (some q, 0) from by
        rw [show (n : Int).toNat = n by omega]
        exact if_neg (fun h => h ⟨by omega, by omega⟩))
      have GK := Lib.hid (guessK_any n h1 h7 t)
      have PD := Lib.hid (show partsD n t = if (makeD (n : Int) (guessV n t).1 (guessV n t).2).2 = 0 ∧ likeB (makeD (n : Int) (guessV n t).1 (guessV n t).2).1 t = true then some (guessV n t) else none from rfl)
      clear h1 h7
      go_enter Tryz.func8, Tryz.ntmps8
      go_wp2_with fail
      refine (rwantF_any t A c _ (by exact TT.out _ S0.out)).mono ?_
      rintro e w1 ⟨rfl, hb1⟩
      have S1 := Lib.hid (S0.out.keep hb1)
      clear hb1 x0 x1 x2 r0 r1 f0 f1 S0
      obtain ⟨x0, x1, x2⟩ := S1.out.xb.cells
      obtain ⟨r0, r1⟩ := S1.out.rb.cells
      have f0 := S1.out.rb.frozen 0
      have f1 := S1.out.rb.frozen 1
      obtain ⟨fw, hfw⟩ : ∃ fw, fw = wantFN t := ⟨_, rfl⟩
      rw [← hfw] at R0 ⊢
      clear hfw
      by_cases hw : fw = 0
      · subst hw
        have R1 := Lib.hid (R0.out.trans (if_neg (fun h => h rfl)))
        clear R0
        go_wp2_with fail
        refine (GK.out A c _ (by exact TT.out _ S1.out)).mono ?_
        rintro e w2 ⟨hb2, A2, c2, rfl, hF⟩
        obtain ⟨p, hp⟩ : ∃ p, p = guessV n t := ⟨_, rfl⟩
        rw [← hp] at hF PD ⊢
        clear hp GK
        obtain ⟨l, x⟩ := p
        have a2 := alB w2 (.cells #[.slice A2 l.length c2, .int .i64 x] 26)
        have S2 := Lib.hid ((S1.out.keep hb2).keep a2)
        have Q2 := Lib.hid (BoxP.new w2 A2 l.length c2 x)
        have F2 := Lib.hid ((hF.keep a2).isT)
        clear hb2 a2 hF x0 x1 x2 r0 r1 f0 f1 S1
        obtain ⟨q0, q1⟩ := Q2.out.cells
        go_wp2_with fail
        refine (rmake_any (n : Int) l A2 c2 x _ (by exact F2.out)).mono ?_
        rintro e w3 ⟨hb3, A3, c3, ht3, rfl⟩
        obtain ⟨m, hm⟩ : ∃ m, m = makeD (n : Int) l x := ⟨_, rfl⟩
        rw [← hm] at ht3 ⊢
        rw [show makeD (n : Int) (l, x).1 (l, x).2 = m from hm.symm] at PD
        clear hm
        have a3 := alB w3 (.cells #[.int .i64 m.1.k, .int .i64 m.1.i, .slice A3 m.1.ks.length c3] 24)
        have S3' := Lib.hid ((S2.out.keep hb3).keep a3)
        have Q3 := Lib.hid ((Q2.out.keep hb3 Q2.out.lt).keep a3 (by have := (Q2.out.keep hb3 Q2.out.lt).lt; exact this))
        have F3 := Lib.hid ((F2.out.keep hb3 hb3.size).keep a3 a3.size)
        have X3 := Lib.hid (Box3.new w3 (.int .i64 m.1.k) (.int .i64 m.1.i) (.slice A3 m.1.ks.length c3))
        have T3 := Lib.hid (ht3.keep a3 a3.size)
        clear hb3 a3 ht3 q0 q1 S2 Q2 F2
        obtain ⟨x0, x1, x2⟩ := S3'.out.xb.cells
        obtain ⟨r0, r1⟩ := S3'.out.rb.cells
        have f0 := S3'.out.rb.frozen 0
        have f1 := S3'.out.rb.frozen 1
        obtain ⟨y0, y1, y2⟩ := X3.out.cells
        by_cases hg : m.2 = 0
        · have hg0 : ((m.2 : Int) != 0) = false := by rw [hg]; rfl
          go_wp2_with fail
          refine (like_any m.1 t A3 A c3 c _ (by exact T3.out) (by exact TT.out _ S3'.out)).mono ?_
          rintro e w4 ⟨rfl, hb4⟩
          have S4 := Lib.hid (S3'.out.keep hb4)
          have Q4 := Lib.hid (Q3.out.keep hb4 Q3.out.lt)
          have F4 := Lib.hid (F3.out.keep hb4 hb4.size)
          clear hb4 x0 x1 x2 r0 r1 f0 f1 y0 y1 y2 S3' Q3 F3 X3 T3
          obtain ⟨r0, r1⟩ := S4.out.rb.cells
          have f0 := S4.out.rb.frozen 0
          have f1 := S4.out.rb.frozen 1
          obtain ⟨q0, q1⟩ := Q4.out.cells
          cases hl : likeB m.1 t with
          | true =>
            have R := Lib.hid (show partsR (partsD (n : Int).toNat t) (n : Int) t = (some (l, x), 0) by rw [R1.out, PD.out, if_pos ⟨hg, hl⟩])
            go_wp2_with fail
            obtain ⟨z0, z1⟩ := ((S4.out.rb.set0 A2 l.length c2).set1 x).cells
            exact bodyPost_ret (v := .tuple #[.agg #[.slice A2 l.length c2, .int .i64 x], .int .i64 0]) (by simp [results, Tryz.results8, go_sem, z0, z1]) rfl (partsI_some R.out S4.out.bel (Nat.le_succ _) S4.out.rb F4.out A2 l.length c2 x)
          | false =>
            have R := Lib.hid (show partsR (partsD (n : Int).toNat t) (n : Int) t = (none, 73) by rw [R1.out, PD.out, if_neg (fun h => by rw [hl] at h; cases h.2)])
            go_wp2_with fail
            obtain ⟨z0, z1⟩ := ((S4.out.rb.set0 none 0 0).set1 0).cells
            exact bodyPost_ret (v := .tuple #[.agg #[.slice none 0 0, .int .i64 0], .int .i64 73]) (by simp [results, Tryz.results8, go_sem, z0, z1]) rfl (partsI_none R.out S4.out.bel (Nat.le_succ _) _ _)
        · have hg0 : ((m.2 : Int) != 0) = true := by rw [bne_iff_ne]; omega
          have R := Lib.hid (show partsR (partsD (n : Int).toNat t) (n : Int) t = (none, 73) by rw [R1.out, PD.out, if_neg (fun h => hg h.1)])
          go_wp2_with fail
          obtain ⟨z0, z1⟩ := ((S3'.out.rb.set0 none 0 0).set1 0).cells
          exact bodyPost_ret (v := .tuple #[.agg #[.slice none 0 0, .int .i64 0], .int .i64 73]) (by simp [results, Tryz.results8, go_sem, z0, z1]) rfl (partsI_none R.out S3'.out.bel (Nat.le_succ _) _ _)
      · have R := Lib.hid (R0.out.trans (if_pos hw))
        have hw0 : ((fw : Int) != 0) = true := by rw [bne_iff_ne]; omega
        go_wp2_with fail
        obtain ⟨z0, z1⟩ := ((S1.out.rb.set0 none 0 0).set1 0).cells
        exact bodyPost_ret (v := .tuple #[.agg #[.slice none 0 0, .int .i64 0], .int .i64 (fw : Int)]) (by simp [results, Tryz.results8, go_sem, z0, z1]) rfl (partsI_none R.out S1.out.bel (Nat.le_succ _) _ _)
end Go.Proofs.YtcjfaajceipenaaGreat
namespace Go.Proofs.YtcjfaajceipenaaGreat
open Go.RowKit
set_option linter.unusedVariables false
set_option linter.unusedSimpArgs false
set_option maxHeartbeats 4000000 in
set_option maxRecDepth 100000 in
theorem ris_any (k : Int) (t : Tr) (A : Option Addr) (c : Nat) (w : World) (ht : IsT w w.heap.size t A c) :
    Calls Tryz.prog 10 #[.int .i64 k, .agg #[.int .i64 t.k, .int .i64 t.i, .slice A t.ks.length c]] w fun e w' => e = .returned (.tuple #[.bool (isV (partsR (partsD k.toNat t) k t).2).1, .int .i64 ((isV (partsR (partsD k.toNat t) k t).2).2 : Nat)]) ∧ Below w.heap.size w w' := by
  have HT := Lib.hid ht
  have B0 := Lib.hid (alB w (.cells #[.int .i64 t.k, .int .i64 t.i, .slice A t.ks.length c] 24))
  obtain ⟨x0, x1, x2⟩ := (Box3.new w (.int .i64 t.k) (.int .i64 t.i) (.slice A t.ks.length c)).cells
  clear ht
  go_enter Tryz.func10, Tryz.ntmps10
  go_wp2_with fail
  refine (rparts7_any k t A c _ (by exact HT.out.keep B0.out B0.out.size)).mono ?_
  rintro e w1 ⟨hb1, hres⟩
  have B1 := Lib.hid (bl_trans B0.out hb1)
  clear hb1 x0 x1 x2
  obtain ⟨q, f, hqf⟩ : ∃ q f, partsR (partsD k.toNat t) k t = (q, f) := ⟨_, _, rfl⟩
  rw [hqf] at hres
  have HQF := Lib.hid hqf
  clear hqf
  have ends : ∃ A7 n7 c7 x7, e = .returned (.tuple #[.agg #[.slice A7 n7 c7, .int .i64 x7], .int .i64 (f : Int)]) := by
    cases q with
    | none => exact ⟨none, 0, 0, 0, hres⟩
    | some p => obtain ⟨A7, c7, he, _⟩ := hres; exact ⟨A7, p.1.length, c7, p.2, he⟩
  clear hres
  obtain ⟨A7, n7, c7, x7, rfl⟩ := ends
  have B2 := Lib.hid (bl_trans B1.out (alB w1 (.cells #[.slice A7 n7 c7, .int .i64 x7] 26)))
  by_cases h73 : f = 73
  · subst h73
    go_wp2_with fail
    go_ret2
    exact ⟨by rw [HQF.out]; rfl, B2.out⟩
  · have h1 : ((f : Int) == 73) = false := by rw [beq_eq_false_iff_ne]; omega
    have V := Lib.hid (show isV f = (decide (f = 0), f) from if_neg h73)
    by_cases h0 : f = 0
    · subst h0
      go_wp2_with fail
      go_ret2
      exact ⟨by rw [HQF.out]; rfl, B2.out⟩
    · have h2 : ((f : Int) == 0) = false := by rw [beq_eq_false_iff_ne]; omega
      have D := Lib.hid (decide_eq_false h0)
      clear h73 h0
      go_wp2_with fail
      go_ret2
      exact ⟨by rw [HQF.out]; show _ = Ending.returned (.tuple #[.bool (isV f).1, .int .i64 ((isV f).2 : Nat)]); rw [V.out, D.out]; rfl, B2.out⟩
end Go.Proofs.YtcjfaajceipenaaGreat
namespace Go.Proofs.YtcjfaajceipenaaGreat
open Go.RowKit
set_option linter.unusedVariables false
set_option linter.unusedSimpArgs false
theorem like_me9 (a : Tr) : likeB a a = true := by unfold likeB; exact decide_eq_true (cmpT_self a)
set_option maxHeartbeats 8000000 in
set_option maxRecDepth 100000 in
theorem sameP_any (l : List Tr) (x : Int) (A B : Option Addr) (c c' : Nat) (w : World) (hA : IsT w w.heap.size (.node 0 0 l) A c) (hB : IsT w w.heap.size (.node 0 0 l) B c') :
    Calls Tryz.prog 11 #[.agg #[.slice A l.length c, .int .i64 x], .agg #[.slice B l.length c', .int .i64 x]] w fun e w' => e = .returned (.bool true) ∧ Below w.heap.size w w' := by
  have hlen : l.length ≤ c ∧ l.length * 40 ≤ 140737488351232 := hA.len
  have hlen' : l.length ≤ c' ∧ l.length * 40 ≤ 140737488351232 := hB.len
  obtain ⟨W0, hW0⟩ : ∃ W0, W0 = (w.alloc (.cells #[.slice A l.length c, .int .i64 x] 26)).alloc (.cells #[.slice B l.length c', .int .i64 x] 26) := ⟨_, rfl⟩
  have HB0 := Lib.hid (show BoxP W0 w.heap.size A l.length c x ∧ BoxP W0 (w.heap.size + 1) B l.length c' x ∧ Below w.heap.size w W0 by
    rw [hW0]
    refine ⟨(BoxP.new w A l.length c x).keep (alB _ _) (BoxP.new w A l.length c x).lt, ?_, bl_trans (alB _ _) (alB _ _)⟩
    have h := BoxP.new (w.alloc (.cells #[.slice A l.length c, .int .i64 x] 26)) B l.length c' x
    simpa using h)
  have HA := Lib.hid (hA.keep HB0.out.2.2 HB0.out.2.2.size)
  have HB := Lib.hid (hB.keep HB0.out.2.2 HB0.out.2.2.size)
  have hx : (x != x) = false := bne_self_eq_false x
  have hl : ((l.length : Int) != (l.length : Int)) = false := bne_self_eq_false _
  have HW := Lib.hid hW0
  clear hA hB hW0
  go_enter Tryz.func11, Tryz.ntmps11
  go_upto_region 1 with fail
  rw [← HW.out]
  obtain ⟨p0, p1⟩ := HB0.out.1.cells
  obtain ⟨q0, q1⟩ := HB0.out.2.1.cells
  clear HW
  go_wp2_with fail
  go_loopw [23] (fun i wx => ∃ m : Nat, m ≤ l.length ∧ i = .int .i64 (m : Int) ∧ Below W0.heap.size W0 wx) (fun i _ => l.length - (intOf i).toNat)
  case atStart => exact ⟨0, Nat.zero_le _, rfl, Below.refl _ _⟩
  case round =>
    obtain ⟨m, hm, rfl, hbw⟩ := hrel
    clear p0 p1 q0 q1
    by_cases hlt : m < l.length
    · obtain ⟨b, o, Aq, cq, rfl, hltb, a0, a1, a2, hkA⟩ := (show KidAt W0 W0.heap.size A m l[m] from HA.out.kid m hlt)
      obtain ⟨b', o', Bq, cq', rfl, hltb', b0, b1, b2, hkB⟩ := (show KidAt W0 W0.heap.size B m l[m] from HB.out.kid m hlt)
      obtain ⟨q, hq⟩ : ∃ q, q = l[m] := ⟨_, rfl⟩
      rw [← hq] at a0 a1 a2 b0 b1 b2 hkA hkB
      clear hq
      have hm0 : (0 : Int) ≤ (m : Int) := by omega
      have hm1 : (m : Int) < (l.length : Int) := by omega
      have SS := Lib.hid (fun (W : World) (h : Below wr.heap.size wr W) => And.intro ((HB0.out.1.keep hbw HB0.out.1.lt).keep h (HB0.out.1.keep hbw HB0.out.1.lt).lt).cells (And.intro ((HB0.out.2.1.keep hbw HB0.out.2.1.lt).keep h (HB0.out.2.1.keep hbw HB0.out.2.1.lt).lt).cells
        (And.intro (And.intro ((bl_trans hbw h).cell hltb |>.trans a0) (And.intro ((bl_trans hbw h).cell hltb |>.trans a1) ((bl_trans hbw h).cell hltb |>.trans a2))) (And.intro ((bl_trans hbw h).cell hltb' |>.trans b0) (And.intro ((bl_trans hbw h).cell hltb' |>.trans b1) ((bl_trans hbw h).cell hltb' |>.trans b2))))))
      have LK := Lib.hid (fun (W : World) (h : Below wr.heap.size wr W) => ((like_any q q Aq Bq cq cq' W (hkA.keep (bl_trans hbw h) (bl_trans hbw h).size) (hkB.keep (bl_trans hbw h) (bl_trans hbw h).size)).mono fun e w' h => ⟨h.1.trans (by rw [like_me9]), h.2⟩ :
        Calls Tryz.prog 17 #[.agg #[.int .i64 q.k, .int .i64 q.i, .slice Aq q.ks.length cq], .agg #[.int .i64 q.k, .int .i64 q.i, .slice Bq q.ks.length cq']] W fun e w' => e = .returned (.bool true) ∧ Below W.heap.size W w'))
      have HBW := Lib.hid hbw
      clear a0 a1 a2 b0 b1 b2 hkA hkB hbw
      go_upto_region 6 with fail
      have BB : Below wr.heap.size wr wr := Below.refl _ _
      go_region_held3 (fun w' => (w'.cell? ⟨w.heap.size, 0, none⟩ = some (.slice (some ⟨b, o, none⟩) l.length c) ∧ w'.cell? ⟨w.heap.size, 1, none⟩ = some (.int .i64 x)) ∧ ((w'.cell? ⟨w.heap.size + 1, 0, none⟩ = some (.slice (some ⟨b', o', none⟩) l.length c') ∧ w'.cell? ⟨w.heap.size + 1, 1, none⟩ = some (.int .i64 x)) ∧
          ((w'.cell? ⟨b, o + m * 3, none⟩ = some (.int .i64 q.k) ∧ w'.cell? ⟨b, o + m * 3 + 1, none⟩ = some (.int .i64 q.i) ∧ w'.cell? ⟨b, o + m * 3 + 2, none⟩ = some (.slice Aq q.ks.length cq)) ∧ (w'.cell? ⟨b', o' + m * 3, none⟩ = some (.int .i64 q.k) ∧ w'.cell? ⟨b', o' + m * 3 + 1, none⟩ = some (.int .i64 q.i) ∧ w'.cell? ⟨b', o' + m * 3 + 2, none⟩ = some (.slice Bq q.ks.length cq')))))
        (first | (with_reducible exact SS.out _ BB) | (with_reducible exact SS.out _ BB.drew))
        (first
          | (go_at_call 17; (first | ((with_reducible refine (LK.out _ BB.drew).mono ?_); rintro e w6 ⟨rfl, hb6⟩; replace BB := bl_trans BB.drew hb6; clear hb6) | ((with_reducible refine (LK.out _ BB).mono ?_); rintro e w6 ⟨rfl, hb6⟩; replace BB := bl_trans BB hb6; clear hb6))))
      all_goals go_wp2_with fail
      all_goals go_roundw
      case rel => exact ⟨m + 1, by omega, by go_num, bl_trans HBW.out BB⟩
      case measure => simp [intOf]; omega
    · obtain rfl : m = l.length := by omega
      go_wp2_with fail
      go_ret
      exact ⟨rfl, bl_trans HB0.out.2.2 hbw⟩
end Go.Proofs.YtcjfaajceipenaaGreat
namespace Go.Proofs.YtcjfaajceipenaaGreat
open Go.RowKit
set_option linter.unusedVariables false
set_option linter.unusedSimpArgs false
/-- the code's parts and the document's are the same -/
theorem parts_same (k : Int) (t : Tr) : partsR (partsD k.toNat t) k t = partsR (partsV k.toNat t) k t := by
  by_cases h : 1 ≤ k ∧ k ≤ 7
  · by_cases hw : wantFN t = 0
    · have hr : rightN t = 0 := by
        unfold wantFN at hw
        by_cases hr : rightN t = 0
        · exact hr
        · rw [if_neg hr] at hw; exact absurd hw hr
      rw [parts_eq (by omega) (by omega) hr]
    · have e : ∀ p, partsR p k t = (none, wantFN t) := fun p => by
        unfold partsR
        rw [if_neg (fun h1 => h1 h), if_pos hw]
      rw [e, e]
  · have e : ∀ p, partsR p k t = (none, 70) := fun p => if_pos h
    rw [e, e]
/-- the list and the number of an answer -/
def resL (r : Option (List Tr × Int) × Nat) : List Tr × Int := match r.1 with | none => ([], 0) | some p => p
theorem PartsI.any {w w' : World} {r : Option (List Tr × Int) × Nat} {e : Ending} (h : PartsI w r e w') :
    Below w.heap.size w w' ∧ ∃ A c, e = .returned (.tuple #[.agg #[.slice A (resL r).1.length c, .int .i64 (resL r).2], .int .i64 (r.2 : Int)]) ∧ IsT w' w'.heap.size (.node 0 0 (resL r).1) A c := by
  obtain ⟨q, f⟩ := r
  obtain ⟨hb, h⟩ := h
  cases q with
  | none => exact ⟨hb, none, 0, h, IsT.mk (Nat.le_refl _) (by show Cap 0; unfold Cap; decide) fun m hm => by simp [resL, Tr.ks] at hm⟩
  | some p =>
    obtain ⟨A, c, he, ht⟩ := h
    exact ⟨hb, A, c, he, ht⟩
set_option maxHeartbeats 8000000 in
set_option maxRecDepth 100000 in
theorem parts_law (k : Int) (t : Tr) (A : Option Addr) (c : Nat) (w : World) (ht : IsT w w.heap.size t A c) :
    Calls Tryz.prog 3 #[.int .i64 k, .agg #[.int .i64 t.k, .int .i64 t.i, .slice A t.ks.length c]] w fun e w' => e = .returned (.bool true) ∧ Below w.heap.size w w' := by
  have HT := Lib.hid ht
  have B0 := Lib.hid (show Below w.heap.size w (w.alloc (.cells #[.int .i64 t.k, .int .i64 t.i, .slice A t.ks.length c] 24)) ∧ Box3 (w.alloc (.cells #[.int .i64 t.k, .int .i64 t.i, .slice A t.ks.length c] 24)) w.heap.size (.int .i64 t.k) (.int .i64 t.i) (.slice A t.ks.length c) from ⟨alB w _, Box3.new w _ _ _⟩)
  have SPA := Lib.hid (fun (W : World) (h : Below w.heap.size w W) => (sparts_any k t A c W (ht.keep h h.size)).mono fun e w' h => PartsI.any h)
  have RPA := Lib.hid (fun (W : World) (h : Below w.heap.size w W) => (rparts7_any k t A c W (ht.keep h h.size)).mono fun e w' h => PartsI.any (parts_same k t ▸ h))
  have SIA := Lib.hid (fun (W : World) (h : Below w.heap.size w W) => sis_any k t A c W (ht.keep h h.size))
  have RIA := Lib.hid (fun (W : World) (h : Below w.heap.size w W) => ris_any k t A c W (ht.keep h h.size))
  rw [parts_same k t] at RIA
  obtain ⟨r, hr⟩ : ∃ r, r = partsR (partsV k.toNat t) k t := ⟨_, rfl⟩
  rw [← hr] at SPA RPA SIA RIA
  obtain ⟨l, x, hlx⟩ : ∃ l x, resL r = (l, x) := ⟨_, _, rfl⟩
  rw [hlx] at SPA RPA
  obtain ⟨f, hf⟩ : ∃ f, f = r.2 := ⟨_, rfl⟩
  rw [← hf] at SPA RPA SIA RIA
  obtain ⟨b, g, hbg⟩ : ∃ b g, isV f = (b, g) := ⟨_, _, rfl⟩
  rw [hbg] at SIA RIA
  have e1 : ((f : Int) == (f : Int)) = true := beq_self_eq_true _
  have e2 : (b == b) = true := beq_self_eq_true _
  have e3 : ((g : Int) == (g : Int)) = true := beq_self_eq_true _
  clear ht hr hlx hf hbg
  obtain ⟨x0, x1, x2⟩ := B0.out.2.cells
  go_enter Tryz.func3, Tryz.ntmps3
  go_wp2_with fail
  refine (SPA.out _ B0.out.1).mono ?_
  rintro e w1 ⟨hb1, A1, c1, rfl, hT1⟩
  have a1 := alB w1 (.cells #[.slice A1 l.length c1, .int .i64 x] 26)
  have B1 := Lib.hid (And.intro (bl_trans B0.out.1 (bl_trans hb1 a1)) ((B0.out.2.keep hb1 B0.out.2.lt).keep a1 (B0.out.2.keep hb1 B0.out.2.lt).lt))
  have Q1 := Lib.hid (BoxP.new w1 A1 l.length c1 x)
  have T1 := Lib.hid (hT1.keep a1 a1.size)
  clear hb1 hT1 a1 x0 x1 x2 B0
  obtain ⟨x0, x1, x2⟩ := B1.out.2.cells
  go_wp2_with fail
  refine (RPA.out _ B1.out.1).mono ?_
  rintro e w2 ⟨hb2, A2, c2, rfl, hT2⟩
  have a2 := alB w2 (.cells #[.slice A2 l.length c2, .int .i64 x] 26)
  have B2 := Lib.hid (And.intro (bl_trans B1.out.1 (bl_trans hb2 a2)) ((B1.out.2.keep hb2 B1.out.2.lt).keep a2 (B1.out.2.keep hb2 B1.out.2.lt).lt))
  have Q2 := Lib.hid (And.intro ((Q1.out.keep hb2 Q1.out.lt).keep a2 (Q1.out.keep hb2 Q1.out.lt).lt) (BoxP.new w2 A2 l.length c2 x))
  have T2 := Lib.hid (And.intro ((T1.out.keep hb2 hb2.size).keep a2 a2.size) (hT2.keep a2 a2.size))
  clear hb2 hT2 a2 x0 x1 x2 B1 Q1 T1
  obtain ⟨x0, x1, x2⟩ := B2.out.2.cells
  go_wp2_with fail
  refine (SIA.out _ B2.out.1).mono ?_
  rintro e w3 ⟨rfl, hb3⟩
  have B3 := Lib.hid (And.intro (bl_trans B2.out.1 hb3) (B2.out.2.keep hb3 B2.out.2.lt))
  have Q3 := Lib.hid (And.intro (Q2.out.1.keep hb3 Q2.out.1.lt) (Q2.out.2.keep hb3 Q2.out.2.lt))
  have T3 := Lib.hid (And.intro (T2.out.1.keep hb3 hb3.size) (T2.out.2.keep hb3 hb3.size))
  clear hb3 x0 x1 x2 B2 Q2 T2
  obtain ⟨x0, x1, x2⟩ := B3.out.2.cells
  go_wp2_with fail
  refine (RIA.out _ B3.out.1).mono ?_
  rintro e w4 ⟨rfl, hb4⟩
  have B4 := Lib.hid (bl_trans B3.out.1 hb4)
  have Q4 := Lib.hid (And.intro (Q3.out.1.keep hb4 Q3.out.1.lt) (Q3.out.2.keep hb4 Q3.out.2.lt))
  have T4 := Lib.hid (And.intro (T3.out.1.keep hb4 hb4.size) (T3.out.2.keep hb4 hb4.size))
  clear hb4 x0 x1 x2 B3 Q3 T3
  obtain ⟨p0, p1⟩ := Q4.out.1.cells
  obtain ⟨q0, q1⟩ := Q4.out.2.cells
  go_wp2_with fail
  refine (sameP_any l x A1 A2 c1 c2 _ (by exact T4.out.1) (by exact T4.out.2)).mono ?_
  rintro e w5 ⟨rfl, hb5⟩
  have B5 := Lib.hid (bl_trans B4.out hb5)
  clear hb5 p0 p1 q0 q1 B4 Q4 T4
  go_wp2_with fail
  go_ret
  exact ⟨rfl, B5.out⟩
end Go.Proofs.YtcjfaajceipenaaGreat
