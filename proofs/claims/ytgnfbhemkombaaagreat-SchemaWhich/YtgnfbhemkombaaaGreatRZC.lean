/- RN, RP, RS, RT, RU, RV, RW, one behind the other. -/
import Derived.Test.YtgnfbhemkombaaaGreatSQ
import Derived.Test.YtgnfbhemkombaaaGreatRZ1
import Derived.Test.YtgnfbhemkombaaaGreatRZB
import Derived.Test.YtgnfbhemkombaaaGreatSX
import Derived.Test.YtgnfbhemkombaaaGreatRZA
import Derived.Deep.QuietTactic
import Derived.BigQuiet
namespace Go.Proofs.YtgnfbhemkombaaaGreat
open Go.RowKit
set_option linter.unusedVariables false
set_option linter.unusedSimpArgs false
theorem guessK_any (n : Nat) (h1 : 1 ≤ n) (h7 : n ≤ 7) (t : Tr) (A : Option Addr) (c : Nat) (w : World) (ht : IsT w w.heap.size t A c) :
    Calls Tryz.prog 31 #[.int .i64 (n : Int), .agg #[.int .i64 t.k, .int .i64 t.i, .slice A t.ks.length c]] w (GuessP w (guessV n t)) := by
  have hk : n = 1 ∨ n = 2 ∨ n = 3 ∨ n = 4 ∨ n = 5 ∨ n = 6 ∨ n = 7 := by omega
  rcases hk with rfl | rfl | rfl | rfl | rfl | rfl | rfl
  · exact guess1_any t A c w ht
  · exact guess2_any t A c w ht
  · exact guess3_any t A c w ht
  · exact guess4_any t A c w ht
  · exact guess5_any t A c w ht
  · exact guess6_any t A c w ht
  · exact guess7_any t A c w ht
end Go.Proofs.YtgnfbhemkombaaaGreat
namespace Go.Proofs.YtgnfbhemkombaaaGreat
open Go.RowKit
set_option linter.unusedVariables false
set_option linter.unusedSimpArgs false
set_option maxHeartbeats 8000000 in
set_option maxRecDepth 100000 in
theorem rparts7_any (k : Int) (t : Tr) (A : Option Addr) (c : Nat) (w : World) (ht : IsT w w.heap.size t A c) :
    Calls Tryz.prog 14 #[.int .i64 k, .agg #[.int .i64 t.k, .int .i64 t.i, .slice A t.ks.length c]] w (PartsI w (partsR (partsD k.toNat t) k t)) := by
  have S0 := Lib.hid (SB.start w t A c)
  have HT := Lib.hid ht
  have TT := Lib.hid (fun (W : World) (h : SB w W t A c) => (ht.keep h.bel h.bel.size : IsT W W.heap.size t A c))
  clear ht
  obtain ⟨x0, x1, x2⟩ := S0.out.xb.cells
  obtain ⟨r0, r1⟩ := S0.out.rb.cells
  have f0 := S0.out.rb.frozen 0
  have f1 := S0.out.rb.frozen 1
  by_cases hk1 : k < 1
  · have R := Lib.hid (show partsR (partsD k.toNat t) k t = (none, 70) from if_pos (fun h => by omega))
    go_enter Tryz.func14, Tryz.ntmps14
    go_wp2_with fail
    exact bodyPost_ret (v := .tuple #[.agg #[.slice none 0 0, .int .i64 0], .int .i64 70]) (by simp [results, Tryz.results14, go_sem, r0, r1]) rfl (partsI_plain R.out S0.out.bel)
  · by_cases hk7 : 7 < k
    · have R := Lib.hid (show partsR (partsD k.toNat t) k t = (none, 70) from if_pos (fun h => by omega))
      go_enter Tryz.func14, Tryz.ntmps14
      go_wp2_with fail
      exact bodyPost_ret (v := .tuple #[.agg #[.slice none 0 0, .int .i64 0], .int .i64 70]) (by simp [results, Tryz.results14, go_sem, r0, r1]) rfl (partsI_plain R.out S0.out.bel)
    · obtain ⟨n, rfl⟩ : ∃ n : Nat, k = n := ⟨k.toNat, by omega⟩
      have h1 : 1 ≤ n := by omega
      have h7 : n ≤ 7 := by omega
      have R0 := Lib.hid (show partsR (partsD (n : Int).toNat t) (n : Int) t = if wantFN t ≠ 0 then (none, wantFN t) else match partsD n t with | none => (none, 73) | some q => (some q, 0) from by
        rw [show (n : Int).toNat = n by omega]
        exact if_neg (fun h => h ⟨by omega, by omega⟩))
      have GK := Lib.hid (guessK_any n h1 h7 t)
      have PD := Lib.hid (show partsD n t = if (makeD (n : Int) (guessV n t).1 (guessV n t).2).2 = 0 ∧ likeB (makeD (n : Int) (guessV n t).1 (guessV n t).2).1 t = true then some (guessV n t) else none from rfl)
      clear h1 h7
      go_enter Tryz.func14, Tryz.ntmps14
      go_wp2_with fail
      refine (rwantF_any t A c _ (by exact TT.out _ S0.out)).mono ?_
      rintro e w1 ⟨rfl, hb1⟩
      have S1 := Lib.hid (S0.out.keep hb1)
      clear hb1 x0 x1 x2 r0 r1 f0 f1 S0
      obtain ⟨x0, x1, x2⟩ := S1.out.xb.cells
      obtain ⟨r0, r1⟩ := S1.out.rb.cells
      have f0 := S1.out.rb.frozen 0
      have f1 := S1.out.rb.frozen 1
      obtain ⟨fw, hfw⟩ : ∃ fw, fw = wantFN t := ⟨_, rfl⟩
      rw [← hfw] at R0 ⊢
      clear hfw
      by_cases hw : fw = 0
      · subst hw
        have R1 := Lib.hid (R0.out.trans (if_neg (fun h => h rfl)))
        clear R0
        go_wp2_with fail
        refine (GK.out A c _ (by exact TT.out _ S1.out)).mono ?_
        rintro e w2 ⟨hb2, A2, c2, rfl, hF⟩
        obtain ⟨p, hp⟩ : ∃ p, p = guessV n t := ⟨_, rfl⟩
        rw [← hp] at hF PD ⊢
        clear hp GK
        obtain ⟨l, x⟩ := p
        have a2 := alB w2 (.cells #[.slice A2 l.length c2, .int .i64 x] 32)
        have S2 := Lib.hid ((S1.out.keep hb2).keep a2)
        have Q2 := Lib.hid (BoxP.new w2 A2 l.length c2 x)
        have F2 := Lib.hid ((hF.keep a2).isT)
        clear hb2 a2 hF x0 x1 x2 r0 r1 f0 f1 S1
        obtain ⟨q0, q1⟩ := Q2.out.cells
        go_wp2_with fail
        refine (rmake_any (n : Int) l A2 c2 x _ (by exact F2.out)).mono ?_
        rintro e w3 ⟨hb3, A3, c3, ht3, rfl⟩
        obtain ⟨m, hm⟩ : ∃ m, m = makeD (n : Int) l x := ⟨_, rfl⟩
        rw [← hm] at ht3 ⊢
        rw [show makeD (n : Int) (l, x).1 (l, x).2 = m from hm.symm] at PD
        clear hm
        have a3 := alB w3 (.cells #[.int .i64 m.1.k, .int .i64 m.1.i, .slice A3 m.1.ks.length c3] 24)
        have S3' := Lib.hid ((S2.out.keep hb3).keep a3)
        have Q3 := Lib.hid ((Q2.out.keep hb3 Q2.out.lt).keep a3 (by have := (Q2.out.keep hb3 Q2.out.lt).lt; exact this))
        have F3 := Lib.hid ((F2.out.keep hb3 hb3.size).keep a3 a3.size)
        have X3 := Lib.hid (Box3.new w3 (.int .i64 m.1.k) (.int .i64 m.1.i) (.slice A3 m.1.ks.length c3))
        have T3 := Lib.hid (ht3.keep a3 a3.size)
        clear hb3 a3 ht3 q0 q1 S2 Q2 F2
        obtain ⟨x0, x1, x2⟩ := S3'.out.xb.cells
        obtain ⟨r0, r1⟩ := S3'.out.rb.cells
        have f0 := S3'.out.rb.frozen 0
        have f1 := S3'.out.rb.frozen 1
        obtain ⟨y0, y1, y2⟩ := X3.out.cells
        by_cases hg : m.2 = 0
        · have hg0 : ((m.2 : Int) != 0) = false := by rw [hg]; rfl
          go_wp2_with fail
          refine (like_any m.1 t A3 A c3 c _ (by exact T3.out) (by exact TT.out _ S3'.out)).mono ?_
          rintro e w4 ⟨rfl, hb4⟩
          have S4 := Lib.hid (S3'.out.keep hb4)
          have Q4 := Lib.hid (Q3.out.keep hb4 Q3.out.lt)
          have F4 := Lib.hid (F3.out.keep hb4 hb4.size)
          clear hb4 x0 x1 x2 r0 r1 f0 f1 y0 y1 y2 S3' Q3 F3 X3 T3
          obtain ⟨r0, r1⟩ := S4.out.rb.cells
          have f0 := S4.out.rb.frozen 0
          have f1 := S4.out.rb.frozen 1
          obtain ⟨q0, q1⟩ := Q4.out.cells
          cases hl : likeB m.1 t with
          | true =>
            have R := Lib.hid (show partsR (partsD (n : Int).toNat t) (n : Int) t = (some (l, x), 0) by rw [R1.out, PD.out, if_pos ⟨hg, hl⟩])
            go_wp2_with fail
            obtain ⟨z0, z1⟩ := ((S4.out.rb.set0 A2 l.length c2).set1 x).cells
            exact bodyPost_ret (v := .tuple #[.agg #[.slice A2 l.length c2, .int .i64 x], .int .i64 0]) (by simp [results, Tryz.results14, go_sem, z0, z1]) rfl (partsI_some R.out S4.out.bel (Nat.le_succ _) S4.out.rb F4.out A2 l.length c2 x)
          | false =>
            have R := Lib.hid (show partsR (partsD (n : Int).toNat t) (n : Int) t = (none, 73) by rw [R1.out, PD.out, if_neg (fun h => by rw [hl] at h; cases h.2)])
            go_wp2_with fail
            obtain ⟨z0, z1⟩ := ((S4.out.rb.set0 none 0 0).set1 0).cells
            exact bodyPost_ret (v := .tuple #[.agg #[.slice none 0 0, .int .i64 0], .int .i64 73]) (by simp [results, Tryz.results14, go_sem, z0, z1]) rfl (partsI_none R.out S4.out.bel (Nat.le_succ _) _ _)
        · have hg0 : ((m.2 : Int) != 0) = true := by rw [bne_iff_ne]; omega
          have R := Lib.hid (show partsR (partsD (n : Int).toNat t) (n : Int) t = (none, 73) by rw [R1.out, PD.out, if_neg (fun h => hg h.1)])
          go_wp2_with fail
          obtain ⟨z0, z1⟩ := ((S3'.out.rb.set0 none 0 0).set1 0).cells
          exact bodyPost_ret (v := .tuple #[.agg #[.slice none 0 0, .int .i64 0], .int .i64 73]) (by simp [results, Tryz.results14, go_sem, z0, z1]) rfl (partsI_none R.out S3'.out.bel (Nat.le_succ _) _ _)
      · have R := Lib.hid (R0.out.trans (if_pos hw))
        have hw0 : ((fw : Int) != 0) = true := by rw [bne_iff_ne]; omega
        go_wp2_with fail
        obtain ⟨z0, z1⟩ := ((S1.out.rb.set0 none 0 0).set1 0).cells
        exact bodyPost_ret (v := .tuple #[.agg #[.slice none 0 0, .int .i64 0], .int .i64 (fw : Int)]) (by simp [results, Tryz.results14, go_sem, z0, z1]) rfl (partsI_none R.out S1.out.bel (Nat.le_succ _) _ _)
end Go.Proofs.YtgnfbhemkombaaaGreat
namespace Go.Proofs.YtgnfbhemkombaaaGreat
open Go.RowKit
set_option linter.unusedVariables false
set_option linter.unusedSimpArgs false
set_option maxHeartbeats 4000000 in
set_option maxRecDepth 100000 in
theorem ris_any (k : Int) (t : Tr) (A : Option Addr) (c : Nat) (w : World) (ht : IsT w w.heap.size t A c) :
    Calls Tryz.prog 20 #[.int .i64 k, .agg #[.int .i64 t.k, .int .i64 t.i, .slice A t.ks.length c]] w fun e w' => e = .returned (.tuple #[.bool (isV (partsR (partsD k.toNat t) k t).2).1, .int .i64 ((isV (partsR (partsD k.toNat t) k t).2).2 : Nat)]) ∧ Below w.heap.size w w' := by
  have HT := Lib.hid ht
  have B0 := Lib.hid (alB w (.cells #[.int .i64 t.k, .int .i64 t.i, .slice A t.ks.length c] 24))
  obtain ⟨x0, x1, x2⟩ := (Box3.new w (.int .i64 t.k) (.int .i64 t.i) (.slice A t.ks.length c)).cells
  clear ht
  go_enter Tryz.func20, Tryz.ntmps20
  go_wp2_with fail
  refine (rparts7_any k t A c _ (by exact HT.out.keep B0.out B0.out.size)).mono ?_
  rintro e w1 ⟨hb1, hres⟩
  have B1 := Lib.hid (bl_trans B0.out hb1)
  clear hb1 x0 x1 x2
  obtain ⟨q, f, hqf⟩ : ∃ q f, partsR (partsD k.toNat t) k t = (q, f) := ⟨_, _, rfl⟩
  rw [hqf] at hres
  have HQF := Lib.hid hqf
  clear hqf
  have ends : ∃ A7 n7 c7 x7, e = .returned (.tuple #[.agg #[.slice A7 n7 c7, .int .i64 x7], .int .i64 (f : Int)]) := by
    cases q with
    | none => exact ⟨none, 0, 0, 0, hres⟩
    | some p => obtain ⟨A7, c7, he, _⟩ := hres; exact ⟨A7, p.1.length, c7, p.2, he⟩
  clear hres
  obtain ⟨A7, n7, c7, x7, rfl⟩ := ends
  have B2 := Lib.hid (bl_trans B1.out (alB w1 (.cells #[.slice A7 n7 c7, .int .i64 x7] 32)))
  by_cases h73 : f = 73
  · subst h73
    go_wp2_with fail
    go_ret2
    exact ⟨by rw [HQF.out]; rfl, B2.out⟩
  · have h1 : ((f : Int) == 73) = false := by rw [beq_eq_false_iff_ne]; omega
    have V := Lib.hid (show isV f = (decide (f = 0), f) from if_neg h73)
    by_cases h0 : f = 0
    · subst h0
      go_wp2_with fail
      go_ret2
      exact ⟨by rw [HQF.out]; rfl, B2.out⟩
    · have h2 : ((f : Int) == 0) = false := by rw [beq_eq_false_iff_ne]; omega
      have D := Lib.hid (decide_eq_false h0)
      clear h73 h0
      go_wp2_with fail
      go_ret2
      exact ⟨by rw [HQF.out]; show _ = Ending.returned (.tuple #[.bool (isV f).1, .int .i64 ((isV f).2 : Nat)]); rw [V.out, D.out]; rfl, B2.out⟩
end Go.Proofs.YtgnfbhemkombaaaGreat
namespace Go.Proofs.YtgnfbhemkombaaaGreat
open Go.RowKit
set_option linter.unusedVariables false
set_option linter.unusedSimpArgs false
theorem like_me9 (a : Tr) : likeB a a = true := by unfold likeB; exact decide_eq_true (cmpT_self a)
set_option maxHeartbeats 8000000 in
set_option maxRecDepth 100000 in
theorem sameP_any (l : List Tr) (x : Int) (A B : Option Addr) (c c' : Nat) (w : World) (hA : IsT w w.heap.size (.node 0 0 l) A c) (hB : IsT w w.heap.size (.node 0 0 l) B c') :
    Calls Tryz.prog 15 #[.agg #[.slice A l.length c, .int .i64 x], .agg #[.slice B l.length c', .int .i64 x]] w fun e w' => e = .returned (.bool true) ∧ Below w.heap.size w w' := by
  have hlen : l.length ≤ c ∧ l.length * 40 ≤ 140737488351232 := hA.len
  have hlen' : l.length ≤ c' ∧ l.length * 40 ≤ 140737488351232 := hB.len
  obtain ⟨W0, hW0⟩ : ∃ W0, W0 = (w.alloc (.cells #[.slice A l.length c, .int .i64 x] 32)).alloc (.cells #[.slice B l.length c', .int .i64 x] 32) := ⟨_, rfl⟩
  have HB0 := Lib.hid (show BoxP W0 w.heap.size A l.length c x ∧ BoxP W0 (w.heap.size + 1) B l.length c' x ∧ Below w.heap.size w W0 by
    rw [hW0]
    refine ⟨(BoxP.new w A l.length c x).keep (alB _ _) (BoxP.new w A l.length c x).lt, ?_, bl_trans (alB _ _) (alB _ _)⟩
    have h := BoxP.new (w.alloc (.cells #[.slice A l.length c, .int .i64 x] 32)) B l.length c' x
    simpa using h)
  have HA := Lib.hid (hA.keep HB0.out.2.2 HB0.out.2.2.size)
  have HB := Lib.hid (hB.keep HB0.out.2.2 HB0.out.2.2.size)
  have hx : (x != x) = false := bne_self_eq_false x
  have hl : ((l.length : Int) != (l.length : Int)) = false := bne_self_eq_false _
  have HW := Lib.hid hW0
  clear hA hB hW0
  go_enter Tryz.func15, Tryz.ntmps15
  go_upto_region 1 with fail
  rw [← HW.out]
  obtain ⟨p0, p1⟩ := HB0.out.1.cells
  obtain ⟨q0, q1⟩ := HB0.out.2.1.cells
  clear HW
  go_wp2_with fail
  go_loopw [23] (fun i wx => ∃ m : Nat, m ≤ l.length ∧ i = .int .i64 (m : Int) ∧ Below W0.heap.size W0 wx) (fun i _ => l.length - (intOf i).toNat)
  case atStart => exact ⟨0, Nat.zero_le _, rfl, Below.refl _ _⟩
  case round =>
    obtain ⟨m, hm, rfl, hbw⟩ := hrel
    clear p0 p1 q0 q1
    by_cases hlt : m < l.length
    · obtain ⟨b, o, Aq, cq, rfl, hltb, a0, a1, a2, hkA⟩ := (show KidAt W0 W0.heap.size A m l[m] from HA.out.kid m hlt)
      obtain ⟨b', o', Bq, cq', rfl, hltb', b0, b1, b2, hkB⟩ := (show KidAt W0 W0.heap.size B m l[m] from HB.out.kid m hlt)
      obtain ⟨q, hq⟩ : ∃ q, q = l[m] := ⟨_, rfl⟩
      rw [← hq] at a0 a1 a2 b0 b1 b2 hkA hkB
      clear hq
      have hm0 : (0 : Int) ≤ (m : Int) := by omega
      have hm1 : (m : Int) < (l.length : Int) := by omega
      have SS := Lib.hid (fun (W : World) (h : Below wr.heap.size wr W) => And.intro ((HB0.out.1.keep hbw HB0.out.1.lt).keep h (HB0.out.1.keep hbw HB0.out.1.lt).lt).cells (And.intro ((HB0.out.2.1.keep hbw HB0.out.2.1.lt).keep h (HB0.out.2.1.keep hbw HB0.out.2.1.lt).lt).cells
        (And.intro (And.intro ((bl_trans hbw h).cell hltb |>.trans a0) (And.intro ((bl_trans hbw h).cell hltb |>.trans a1) ((bl_trans hbw h).cell hltb |>.trans a2))) (And.intro ((bl_trans hbw h).cell hltb' |>.trans b0) (And.intro ((bl_trans hbw h).cell hltb' |>.trans b1) ((bl_trans hbw h).cell hltb' |>.trans b2))))))
      have LK := Lib.hid (fun (W : World) (h : Below wr.heap.size wr W) => ((like_any q q Aq Bq cq cq' W (hkA.keep (bl_trans hbw h) (bl_trans hbw h).size) (hkB.keep (bl_trans hbw h) (bl_trans hbw h).size)).mono fun e w' h => ⟨h.1.trans (by rw [like_me9]), h.2⟩ :
        Calls Tryz.prog 13 #[.agg #[.int .i64 q.k, .int .i64 q.i, .slice Aq q.ks.length cq], .agg #[.int .i64 q.k, .int .i64 q.i, .slice Bq q.ks.length cq']] W fun e w' => e = .returned (.bool true) ∧ Below W.heap.size W w'))
      have HBW := Lib.hid hbw
      clear a0 a1 a2 b0 b1 b2 hkA hkB hbw
      go_upto_region 6 with fail
      have BB : Below wr.heap.size wr wr := Below.refl _ _
      go_region_held3 (fun w' => (w'.cell? ⟨w.heap.size, 0, none⟩ = some (.slice (some ⟨b, o, none⟩) l.length c) ∧ w'.cell? ⟨w.heap.size, 1, none⟩ = some (.int .i64 x)) ∧ ((w'.cell? ⟨w.heap.size + 1, 0, none⟩ = some (.slice (some ⟨b', o', none⟩) l.length c') ∧ w'.cell? ⟨w.heap.size + 1, 1, none⟩ = some (.int .i64 x)) ∧
          ((w'.cell? ⟨b, o + m * 3, none⟩ = some (.int .i64 q.k) ∧ w'.cell? ⟨b, o + m * 3 + 1, none⟩ = some (.int .i64 q.i) ∧ w'.cell? ⟨b, o + m * 3 + 2, none⟩ = some (.slice Aq q.ks.length cq)) ∧ (w'.cell? ⟨b', o' + m * 3, none⟩ = some (.int .i64 q.k) ∧ w'.cell? ⟨b', o' + m * 3 + 1, none⟩ = some (.int .i64 q.i) ∧ w'.cell? ⟨b', o' + m * 3 + 2, none⟩ = some (.slice Bq q.ks.length cq')))))
        (first | (with_reducible exact SS.out _ BB) | (with_reducible exact SS.out _ BB.drew))
        (first
          | (go_at_call 13; (first | ((with_reducible refine (LK.out _ BB.drew).mono ?_); rintro e w6 ⟨rfl, hb6⟩; replace BB := bl_trans BB.drew hb6; clear hb6) | ((with_reducible refine (LK.out _ BB).mono ?_); rintro e w6 ⟨rfl, hb6⟩; replace BB := bl_trans BB hb6; clear hb6))))
      all_goals go_wp2_with fail
      all_goals go_roundw
      case rel => exact ⟨m + 1, by omega, by go_num, bl_trans HBW.out BB⟩
      case measure => simp [intOf]; omega
    · obtain rfl : m = l.length := by omega
      go_wp2_with fail
      go_ret
      exact ⟨rfl, bl_trans HB0.out.2.2 hbw⟩
end Go.Proofs.YtgnfbhemkombaaaGreat
namespace Go.Proofs.YtgnfbhemkombaaaGreat
open Go.RowKit
set_option linter.unusedVariables false
set_option linter.unusedSimpArgs false
/-- the code's parts and the document's are the same -/
theorem parts_same (k : Int) (t : Tr) : partsR (partsD k.toNat t) k t = partsR (partsV k.toNat t) k t := by
  by_cases h : 1 ≤ k ∧ k ≤ 7
  · by_cases hw : wantFN t = 0
    · have hr : rightN t = 0 := by
        unfold wantFN at hw
        by_cases hr : rightN t = 0
        · exact hr
        · rw [if_neg hr] at hw; exact absurd hw hr
      rw [parts_eq (by omega) (by omega) hr]
    · have e : ∀ p, partsR p k t = (none, wantFN t) := fun p => by
        unfold partsR
        rw [if_neg (fun h1 => h1 h), if_pos hw]
      rw [e, e]
  · have e : ∀ p, partsR p k t = (none, 70) := fun p => if_pos h
    rw [e, e]
/-- the list and the number of an answer -/
def resL (r : Option (List Tr × Int) × Nat) : List Tr × Int := match r.1 with | none => ([], 0) | some p => p
theorem PartsI.any {w w' : World} {r : Option (List Tr × Int) × Nat} {e : Ending} (h : PartsI w r e w') :
    Below w.heap.size w w' ∧ ∃ A c, e = .returned (.tuple #[.agg #[.slice A (resL r).1.length c, .int .i64 (resL r).2], .int .i64 (r.2 : Int)]) ∧ IsT w' w'.heap.size (.node 0 0 (resL r).1) A c := by
  obtain ⟨q, f⟩ := r
  obtain ⟨hb, h⟩ := h
  cases q with
  | none => exact ⟨hb, none, 0, h, IsT.mk (Nat.le_refl _) (by show Cap 0; unfold Cap; decide) fun m hm => by simp [resL, Tr.ks] at hm⟩
  | some p =>
    obtain ⟨A, c, he, ht⟩ := h
    exact ⟨hb, A, c, he, ht⟩
end Go.Proofs.YtgnfbhemkombaaaGreat
namespace Go.Proofs.YtgnfbhemkombaaaGreat
open Go.RowKit
set_option linter.unusedVariables false
set_option linter.unusedSimpArgs false
/-- the numbers up to m that p accepts -/
def whTo (p : Nat → Bool) : Nat → List Nat
  | 0 => []
  | m + 1 => whTo p m ++ (if p (m + 1) = true then [m + 1] else [])
theorem whTo_len (p : Nat → Bool) : ∀ m, (whTo p m).length ≤ m
  | 0 => Nat.le_refl _
  | m + 1 => by
    have := whTo_len p m
    unfold whTo
    rw [List.length_append]
    split <;> simp <;> omega
theorem whTo_yes {p : Nat → Bool} {m : Nat} (h : p (m + 1) = true) : whTo p (m + 1) = whTo p m ++ [m + 1] := by
  conv => lhs; unfold whTo
  rw [if_pos h]
theorem whTo_no {p : Nat → Bool} {m : Nat} (h : p (m + 1) = false) : whTo p (m + 1) = whTo p m := by
  conv => lhs; unfold whTo
  rw [if_neg (by rw [h]; simp), List.append_nil]
theorem whTo_congr {p q : Nat → Bool} : ∀ m, (∀ k, 1 ≤ k → k ≤ m → p k = q k) → whTo p m = whTo q m
  | 0, _ => rfl
  | m + 1, h => by
    unfold whTo
    rw [whTo_congr m (fun k h1 h2 => h k h1 (by omega)), h (m + 1) (by omega) (by omega)]
def whR (p : Nat → Bool) (t : Tr) : List Nat := if wantFN t = 0 then whTo p 7 else []
theorem grown_bl {w w' : World} (h : Below w.heap.size w w') : w.grownBy w' none := ⟨h.os, h.tape, h.output, h.size, fun i hi _ => h.block i hi⟩
theorem own_bl {w w' : World} {B : Nat} {T : TypeId} {v : Value} {n : Nat} {xs : List Value} (h : w.ownsRow B T 1 v n xs) (hb : Below w.heap.size w w') : w'.ownsRow B T 1 v n xs :=
  h.kept (grown_bl hb) (by
    cases e : v.ownBlock with
    | none => exact .inl rfl
    | some g => exact .inr (by simp))
theorem own_lo {w : World} {B B' : Nat} {T : TypeId} {v : Value} {n : Nat} {xs : List Value} (h : w.ownsRow B T 1 v n xs) (hB : B' ≤ B) : w.ownsRow B' T 1 v n xs := by
  obtain ⟨h1, h2⟩ := h
  refine ⟨h1, ?_⟩
  rcases h2 with h2 | ⟨g, cap, cur, e, hb, h3⟩
  · exact .inl h2
  · exact .inr ⟨g, cap, cur, e, by omega, h3⟩
/-- an answer: numbers in memory of the call's own, and a fault -/
def WhI (w : World) (l : List Nat) (f : Nat) (e : Ending) (w' : World) : Prop :=
  ∃ v, e = .returned (.tuple #[v, .int .i64 (f : Int)]) ∧ w'.ownsRow w.heap.size 3 1 v l.length (icells l) ∧ Below w.heap.size w w'
set_option maxHeartbeats 8000000 in
set_option maxRecDepth 100000 in
theorem which_any (t : Tr) (A : Option Addr) (c : Nat) (w : World) (ht : IsT w w.heap.size t A c) :
    Calls Tryz.prog 6 #[.agg #[.int .i64 t.k, .int .i64 t.i, .slice A t.ks.length c]] w (WhI w (whR (fun k => (partsV k t).isSome) t) (wantFN t)) := by
  obtain ⟨i0, hi, hz0, hz1, hz2⟩ := info_parts Tryz.info_int
  obtain ⟨p, hp⟩ : ∃ p : Nat → Bool, p = fun k => (partsV k t).isSome := ⟨_, rfl⟩
  obtain ⟨fw, hfw⟩ : ∃ fw, fw = wantFN t := ⟨_, rfl⟩
  obtain ⟨res, hres0⟩ : ∃ res, res = whR p t := ⟨_, rfl⟩
  rw [← hp, ← hres0, ← hfw]
  have RES := Lib.hid (show res = if fw = 0 then whTo p 7 else [] by rw [hres0, hfw]; rfl)
  have PE := Lib.hid hp
  have HF := Lib.hid hfw
  have WF := Lib.hid (fun (W : World) (h : Below w.heap.size w W) => hfw ▸ form_any t A c W (ht.keep h h.size))
  clear hres0 hp hfw
  have B0 := Lib.hid (show Below w.heap.size w (w.alloc (.cells #[.int .i64 t.k, .int .i64 t.i, .slice A t.ks.length c] 24)) ∧ Box3 (w.alloc (.cells #[.int .i64 t.k, .int .i64 t.i, .slice A t.ks.length c] 24)) w.heap.size (.int .i64 t.k) (.int .i64 t.i) (.slice A t.ks.length c) from ⟨alB w _, Box3.new w _ _ _⟩)
  have HT := Lib.hid ht
  have OW := Lib.hid (show w.heap.size ≤ w.heap.size from Nat.le_refl _)
  clear ht
  obtain ⟨x0, x1, x2⟩ := B0.out.2.cells
  go_enter Tryz.func6, Tryz.ntmps6
  go_wp2_with fail
  refine (WF.out _ B0.out.1).mono ?_
  rintro e w1 ⟨rfl, hb1⟩
  have B1 := Lib.hid (And.intro (bl_trans B0.out.1 hb1) (B0.out.2.keep hb1 B0.out.2.lt))
  clear hb1 x0 x1 x2 B0
  by_cases hw : fw = 0
  · subst hw
    obtain rfl : res = whTo p 7 := RES.out.trans (if_pos rfl)
    have HR := Lib.hid (show rightN t = 0 by
      have h := HF.out
      unfold wantFN at h
      by_cases hr : rightN t = 0
      · exact hr
      · rw [if_neg hr] at h; exact absurd h.symm hr)
    go_wp2_with fail
    refine (schemas_any _).mono ?_
    rintro e w2 ⟨hb2, b, hb, hge, rfl, hT⟩
    have B2 := Lib.hid (And.intro (bl_trans B1.out.1 hb2) (B1.out.2.keep hb2 B1.out.2.lt))
    have TB := Lib.hid (And.intro hT hb)
    have z1 := Lib.hid B1.out.1.size
    obtain ⟨lo, hlo⟩ : ∃ lo, lo = w1.heap.size := ⟨_, rfl⟩
    rw [← hlo] at TB
    clear hb2 hT hb hge hlo B1
    have O0 := Lib.hid (World.ownsRow_nil w2 w2.heap.size 3 1)
    go_wp2_with fail
    go_loopw [5, 17] (fun v i wr => ∃ m : Nat, m ≤ 7 ∧ i = .int .i64 m ∧ wr.ownsRow w2.heap.size 3 1 v (whTo p m).length (icells (whTo p m)) ∧ Below w2.heap.size w2 wr) (fun _ i _ => 7 - (intOf i).toNat)
    case atStart => exact ⟨0, Nat.zero_le _, rfl, O0.out, Below.refl _ _⟩
    case round =>
      obtain ⟨m, hm', rfl, hown, hnx⟩ := hrel
      have hl := whTo_len p m
      by_cases hlt : m < 7
      · obtain ⟨S, vf, vc, hS, c0, c1, c2, c3, c4, c5⟩ := TB.out.1 (m + 1) (by omega) (by omega)
        have hb := TB.out.2
        rw [show 6 * (m + 1 - 1) = m * 6 by omega] at c0 c1 c2 c3 c4 c5
        have HS := Lib.hid hS.2
        have e0 := (hnx.cell (p := ⟨b, m * 6, none⟩) hb).trans c0
        have e1 := (hnx.cell (p := ⟨b, m * 6 + 1, none⟩) hb).trans c1
        have e2 := (hnx.cell (p := ⟨b, m * 6 + 2, none⟩) hb).trans c2
        have e3 := (hnx.cell (p := ⟨b, m * 6 + 3, none⟩) hb).trans c3
        have e4 := (hnx.cell (p := ⟨b, m * 6 + 4, none⟩) hb).trans c4
        have e5 := (hnx.cell (p := ⟨b, m * 6 + 5, none⟩) hb).trans c5
        clear hS c0 c1 c2 c3 c4 c5 hb
        obtain ⟨z, hz⟩ : ∃ z : Int, z = ((m + 1 : Nat) : Int) := ⟨_, rfl⟩
        rw [← hz] at e0
        have HZ := Lib.hid hz
        clear hz
        obtain ⟨ln, hln⟩ : ∃ ln, ln = (sortsL (m + 1)).length := ⟨_, rfl⟩
        obtain ⟨nm, hnm⟩ : ∃ nm, nm = decide (m + 1 = 4 ∨ m + 1 = 5) := ⟨_, rfl⟩
        obtain ⟨ff, hff⟩ : ∃ ff, ff = fillF (m + 1) := ⟨_, rfl⟩
        obtain ⟨sf, hsf⟩ : ∃ sf, sf = sideF (m + 1) := ⟨_, rfl⟩
        rw [← hln] at e1
        rw [← hnm] at e2
        rw [← hff] at e3
        rw [← hsf] at e4
        have EQ := Lib.hid (And.intro hff hsf)
        clear hln hnm hff hsf
        have E1 := Lib.hid (Box6.new wr (.int .i64 z) (.slice S ln ln) (.bool nm) (.func (.func ff) #[] #[]) (.func (.func sf) #[] #[]) (.func (.func vf) #[] vc))
        obtain ⟨y0, y1, y2, y3, y4, y5⟩ := E1.out.cells
        have A1 := Lib.hid (alB wr (.cells #[.int .i64 z, .slice S ln ln, .bool nm, .func (.func ff) #[] #[], .func (.func sf) #[] #[], .func (.func vf) #[] vc] 50))
        have N1 := Lib.hid (bl_trans hnx A1.out)
        have X1 := Lib.hid (B2.out.2.keep N1.out B2.out.2.lt)
        have O1 := Lib.hid (own_bl hown A1.out)
        have HS1 := Lib.hid (HS.out.keep N1.out N1.out.size)
        have T1 := Lib.hid (HT.out.keep (bl_trans B2.out.1 N1.out) (bl_trans B2.out.1 N1.out).size)
        obtain ⟨x0, x1, x2⟩ := X1.out.cells
        have PC := Lib.hid (fun (W : World) (hW : W = wr.alloc (.cells #[.int .i64 z, .slice S ln ln, .bool nm, .func (.func ff) #[] #[], .func (.func sf) #[] #[], .func (.func vf) #[] vc] 50)) => by
          have h := partsOf_any (m + 1) (by omega) (by omega) S ln nm vf lo vc t A c W (hW ▸ HS1.out) (hW ▸ T1.out) HR.out
          rw [← EQ.out.1, ← EQ.out.2, ← HZ.out] at h
          exact h)
        clear hown hnx A1
        go_wp2_with fail
        refine (PC.out _ rfl).mono ?_
        rintro e w3 ⟨hb3, hres⟩
        have N3 := Lib.hid (bl_trans N1.out hb3)
        have E3 := Lib.hid (E1.out.keep hb3 E1.out.lt)
        have O3 := Lib.hid (own_bl O1.out hb3)
        clear hb3 e0 e1 e2 e3 e4 e5 y0 y1 y2 y3 y4 y5 x0 x1 x2 E1 N1 O1 X1 T1 HS1 PC EQ
        obtain ⟨y0, y1, y2, y3, y4, y5⟩ := E3.out.cells
        have ends : ∃ A7 n7 c7 x7, e = .returned (.tuple #[.agg #[.slice A7 n7 c7, .int .i64 x7], .bool (p (m + 1))]) := by
          rw [PE.out]
          show ∃ A7 n7 c7 x7, e = .returned (.tuple #[.agg #[.slice A7 n7 c7, .int .i64 x7], .bool (partsV (m + 1) t).isSome])
          cases hq : partsV (m + 1) t with
          | none => rw [hq] at hres; exact ⟨none, 0, 0, 0, hres⟩
          | some q => rw [hq] at hres; obtain ⟨A7, c7, he, _⟩ := hres; exact ⟨A7, q.1.length, c7, q.2, he⟩
        clear hres
        obtain ⟨A7, n7, c7, x7, rfl⟩ := ends
        have A4 := Lib.hid (alB w3 (.cells #[.slice A7 n7 c7, .int .i64 x7] 32))
        have N4 := Lib.hid (bl_trans N3.out A4.out)
        have O4 := Lib.hid (own_bl O3.out A4.out)
        have E4 := Lib.hid (E3.out.keep A4.out E3.out.lt)
        have z3 := N3.out.size
        have CO := Lib.hid (show ∀ j u, [Value.int .i64 z][j]? = some u → ((w3.alloc (.cells #[.slice A7 n7 c7, .int .i64 x7] 32)).alloc (.cells #[.int .i64 z] 3)).cell? ((⟨w3.heap.size + 1, 0, none⟩ : Addr).add j) = some u from by
          rw [show w3.heap.size + 1 = (w3.alloc (.cells #[.slice A7 n7 c7, .int .i64 x7] 32)).heap.size by simp]
          exact cell_one_new _ _ _)
        clear y0 y1 y2 y3 y4 y5 E3 A4 N3 O3
        obtain ⟨y0, y1, y2, y3, y4, y5⟩ := E4.out.cells
        cases hb : p (m + 1) with
        | true =>
          have E := Lib.hid (whTo_yes hb)
          clear hb
          go_wp2_with (at_builtin; refine wpList_append_own _ rfl _ _ 25 rfl w2.heap.size 3 i0 (.int .i64 0) 1 8 Tryz.underlying25 hi hz0 hz1 hz2 rfl (by decide) _ _ _ rfl (O4.out.alloc _) ⟨w3.heap.size + 1, 0, none⟩ 1 1 [.int .i64 z] rfl rfl CO.out ?c2 ?c3 ?c4 ?c5 ?_)
          case c2 => intro u hu; simp at hu; subst hu; rfl
          case c3 => unfold maxLen; omega
          case c4 => omega
          case c5 => have := N4.out.size; simp at this ⊢; omega
          intro v' w5 hown' hgrow _
          have R := Lib.hid (own_step O4.out N4.out (Nat.le_refl _) hgrow)
          have O := Lib.hid (show w5.ownsRow w2.heap.size 3 1 v' (whTo p (m + 1)).length (icells (whTo p (m + 1))) by
            rw [E.out, icells_app, List.length_append]; rw [HZ.out] at hown'; exact hown')
          clear hown' hgrow
          go_wp2_with fail
          go_roundw
          case rel => exact ⟨m + 1, by omega, by go_num, O.out, R.out⟩
          case measure => simp [intOf]; omega
        | false =>
          have E := Lib.hid (whTo_no hb)
          clear hb
          go_wp2_with fail
          go_roundw
          case rel => exact ⟨m + 1, by omega, by go_num, by rw [E.out]; exact O4.out, N4.out⟩
          case measure => simp [intOf]; omega
      · obtain rfl : m = 7 := by omega
        have O9 := Lib.hid hown
        have N9 := Lib.hid hnx
        clear hown hnx
        go_wp2_with fail
        go_ret2
        exact ⟨_, rfl, own_lo O9.out (Nat.le_trans (by exact B2.out.1.size) (Nat.le_refl _)), bl_trans B2.out.1 N9.out⟩
  · obtain rfl : res = [] := RES.out.trans (if_neg hw)
    have hw0 : ((fw : Int) != 0) = true := by rw [bne_iff_ne]; omega
    go_wp2_with fail
    go_ret2
    exact ⟨_, rfl, World.ownsRow_nil _ _ _ _, B1.out.1⟩
set_option maxHeartbeats 4000000 in
set_option maxRecDepth 100000 in
theorem rwhich_any (t : Tr) (A : Option Addr) (c : Nat) (w : World) (ht : IsT w w.heap.size t A c) :
    Calls Tryz.prog 7 #[.agg #[.int .i64 t.k, .int .i64 t.i, .slice A t.ks.length c]] w (WhI w (whR (fun k => (isV (partsR (partsD k t) (k : Int) t).2).1) t) (wantFN t)) := by
  obtain ⟨i0, hi, hz0, hz1, hz2⟩ := info_parts Tryz.info_int
  obtain ⟨p, hp⟩ : ∃ p : Nat → Bool, p = fun k => (isV (partsR (partsD k t) (k : Int) t).2).1 := ⟨_, rfl⟩
  obtain ⟨fw, hfw⟩ : ∃ fw, fw = wantFN t := ⟨_, rfl⟩
  obtain ⟨res, hres0⟩ : ∃ res, res = whR p t := ⟨_, rfl⟩
  rw [← hp, ← hres0, ← hfw]
  have RES := Lib.hid (show res = if fw = 0 then whTo p 7 else [] by rw [hres0, hfw]; rfl)
  have PE := Lib.hid hp
  have HF := Lib.hid hfw
  have WF := Lib.hid (fun (W : World) (h : Below w.heap.size w W) => hfw ▸ rwantF_any t A c W (ht.keep h h.size))
  have IA0 := Lib.hid (fun (k : Nat) (W : World) (h : Below w.heap.size w W) => (ris_any (k : Int) t A c W (ht.keep h h.size)).mono fun e w' he => (by
    rw [hp]
    rw [show (k : Int).toNat = k by omega] at he
    exact ⟨_, he⟩ : ∃ f : Nat, e = .returned (.tuple #[.bool (p k), .int .i64 (f : Int)]) ∧ Below W.heap.size W w'))
  clear hres0 hp hfw
  have B0 := Lib.hid (show Below w.heap.size w (w.alloc (.cells #[.int .i64 t.k, .int .i64 t.i, .slice A t.ks.length c] 24)) ∧ Box3 (w.alloc (.cells #[.int .i64 t.k, .int .i64 t.i, .slice A t.ks.length c] 24)) w.heap.size (.int .i64 t.k) (.int .i64 t.i) (.slice A t.ks.length c) from ⟨alB w _, Box3.new w _ _ _⟩)
  have HT := Lib.hid ht
  clear ht
  obtain ⟨x0, x1, x2⟩ := B0.out.2.cells
  go_enter Tryz.func7, Tryz.ntmps7
  go_wp2_with fail
  refine (WF.out _ B0.out.1).mono ?_
  rintro e w1 ⟨rfl, hb1⟩
  have B1 := Lib.hid (And.intro (bl_trans B0.out.1 hb1) (B0.out.2.keep hb1 B0.out.2.lt))
  clear hb1 x0 x1 x2 B0
  by_cases hw : fw = 0
  · subst hw
    obtain rfl : res = whTo p 7 := RES.out.trans (if_pos rfl)
    have IA := Lib.hid (fun (k : Nat) (W : World) (h : Below w1.heap.size w1 W) => IA0.out k W (bl_trans B1.out.1 h))
    have O0 := Lib.hid (own_none w1 w1.heap.size (Nat.le_refl _) 3)
    have N0 := Lib.hid (alB w1 (.cells #[] 3))
    go_wp2_with fail
    go_loopw [5, 6] (fun v i wr => ∃ m : Nat, m ≤ 7 ∧ i = .int .i64 ((m + 1 : Nat) : Int) ∧ wr.ownsRow w1.heap.size 3 1 v (whTo p m).length (icells (whTo p m)) ∧ Below w1.heap.size w1 wr) (fun _ i _ => 8 - (intOf i).toNat)
    case atStart => exact ⟨0, Nat.zero_le _, rfl, O0.out, N0.out⟩
    case round =>
      obtain ⟨m, hm', rfl, hown, hnx⟩ := hrel
      have hl := whTo_len p m
      by_cases hlt : m < 7
      · have X1 := Lib.hid (B1.out.2.keep hnx B1.out.2.lt)
        obtain ⟨x0, x1, x2⟩ := X1.out.cells
        have CA := Lib.hid (IA.out (m + 1) wr hnx)
        have N1 := Lib.hid hnx
        have O1 := Lib.hid hown
        clear hown hnx
        go_wp2_with fail
        refine CA.out.mono ?_
        rintro e w3 ⟨g, rfl, hb3⟩
        have N3 := Lib.hid (bl_trans N1.out hb3)
        have O3 := Lib.hid (own_bl O1.out hb3)
        have z3 := N3.out.size
        have CO := Lib.hid (fun (W : World) (T : TypeId) => cell_one_new W (.int .i64 ((m + 1 : Nat) : Int)) T)
        clear hb3 x0 x1 x2 X1 N1 O1 CA
        cases hb : p (m + 1) with
        | true =>
          have E := Lib.hid (whTo_yes hb)
          clear hb
          go_wp2_with (at_builtin; refine wpList_append_own _ rfl _ _ 25 rfl w1.heap.size 3 i0 (.int .i64 0) 1 8 Tryz.underlying25 hi hz0 hz1 hz2 rfl (by decide) _ _ _ rfl (O3.out.alloc _) ⟨w3.heap.size, 0, none⟩ 1 1 [.int .i64 ((m + 1 : Nat) : Int)] rfl rfl (CO.out _ _) ?d2 ?d3 ?d4 ?d5 ?_)
          case d2 => intro u hu; simp at hu; subst hu; rfl
          case d3 => unfold maxLen; omega
          case d4 => omega
          case d5 => have := N3.out.size; simp at this ⊢; omega
          intro v' w5 hown' hgrow _
          have R := Lib.hid (own_step O3.out N3.out (Nat.le_refl _) hgrow)
          have O := Lib.hid (show w5.ownsRow w1.heap.size 3 1 v' (whTo p (m + 1)).length (icells (whTo p (m + 1))) by
            rw [E.out, icells_app, List.length_append]; exact hown')
          clear hown' hgrow
          go_wp2_with fail
          go_roundw
          case rel => exact ⟨m + 1, by omega, by go_num, O.out, R.out⟩
          case measure => simp [intOf]; omega
        | false =>
          have E := Lib.hid (whTo_no hb)
          clear hb
          go_wp2_with fail
          go_roundw
          case rel => exact ⟨m + 1, by omega, by go_num, by rw [E.out]; exact O3.out, N3.out⟩
          case measure => simp [intOf]; omega
      · obtain rfl : m = 7 := by omega
        have O9 := Lib.hid hown
        have N9 := Lib.hid hnx
        clear hown hnx
        go_wp2_with fail
        go_ret2
        exact ⟨_, rfl, own_lo O9.out B1.out.1.size, bl_trans B1.out.1 N9.out⟩
  · obtain rfl : res = [] := RES.out.trans (if_neg hw)
    have hw0 : ((fw : Int) != 0) = true := by rw [bne_iff_ne]; omega
    go_wp2_with fail
    go_ret2
    exact ⟨_, rfl, World.ownsRow_nil _ _ _ _, B1.out.1⟩
/-- the code's numbers are the document's -/
theorem which_same (t : Tr) : whR (fun k => (isV (partsR (partsD k t) (k : Int) t).2).1) t = whR (fun k => (partsV k t).isSome) t := by
  unfold whR
  by_cases hw : wantFN t = 0
  · rw [if_pos hw, if_pos hw]
    refine whTo_congr 7 fun k h1 h7 => ?_
    have hs := parts_same (k : Int) t
    rw [show (k : Int).toNat = k by omega] at hs
    show (isV (partsR (partsD k t) (k : Int) t).2).1 = (partsV k t).isSome
    rw [hs]
    unfold partsR
    rw [if_neg (fun h => h ⟨by omega, by omega⟩), if_neg (fun h => h hw)]
    cases partsV k t with
    | none => rfl
    | some q => rfl
  · rw [if_neg hw, if_neg hw]
/-- cells of numbers, read at an address -/
def RdI (w : World) (A : Option Addr) (l : List Nat) : Prop := ∀ j (h : j < l.length), ∃ ad, A = some ad ∧ (ad.add j).block < w.heap.size ∧ w.cell? (ad.add j) = some (.int .i64 (l[j] : Int))
theorem rdI_own {w : World} {B : Nat} {T : TypeId} {v : Value} {l : List Nat} (h : w.ownsRow B T 1 v l.length (icells l)) : ∃ A c, v = .slice A l.length c ∧ RdI w A l := by
  rcases own_form h with ⟨rfl, hz⟩ | ⟨g, cap, rfl, _, h1, h2, hc⟩
  · have e : l = [] := List.eq_nil_of_length_eq_zero hz
    subst e
    exact ⟨none, 0, rfl, fun j hj => by simp at hj⟩
  · refine ⟨_, cap, rfl, fun j hj => ⟨_, rfl, ?_⟩⟩
    have e : (⟨g, 0, none⟩ : Addr).add j = ⟨g, j, none⟩ := by unfold Addr.add; split <;> simp_all
    have hc0 := hc j hj
    have hi : (icells l)[j]? = some (.int .i64 (l[j] : Int)) := by simp [icells, hj]
    rw [hi] at hc0
    rw [e]
    exact ⟨block_lt_of_cell hc0, hc0⟩
theorem RdI.keep {w w' : World} {A : Option Addr} {l : List Nat} (h : RdI w A l) (hb : Below w.heap.size w w') : RdI w' A l := fun j hj => by
  obtain ⟨ad, e, h1, h2⟩ := h j hj
  exact ⟨ad, e, Nat.lt_of_lt_of_le h1 hb.size, (hb.cell h1).trans h2⟩
set_option maxHeartbeats 400000 in
theorem same_ints7 (A A' : Option Addr) (c c' : Nat) (l : List Nat) (w : World) (hr : RdI w A l) (hr' : RdI w A' l) (hn : l.length ≤ 7) :
    Calls Tryz.prog 8 #[.slice A l.length c, .slice A' l.length c'] w fun e w' => e = .returned (.bool true) ∧ Below w.heap.size w w' := by
  have R := Lib.hid hr
  have R' := Lib.hid hr'
  clear hr hr'
  go_enter Tryz.func8, Tryz.ntmps8
  go_wp2
  go_loopw [13] (fun i wr => ∃ k : Nat, k ≤ l.length ∧ i = .int .i64 k ∧ Below w.heap.size w wr) (fun i _ => l.length - (intOf i).toNat)
  case atStart => exact ⟨0, Nat.zero_le _, rfl, Below.refl _ _⟩
  case round =>
    obtain ⟨k, hk, rfl, hnx⟩ := hrel
    by_cases hlt : k < l.length
    · obtain ⟨ad, rfl, hb, hc⟩ := R.out k hlt
      obtain ⟨ad', rfl, hb', hc'⟩ := R'.out k hlt
      obtain ⟨z, hz⟩ : ∃ z : Int, z = (l[k] : Int) := ⟨_, rfl⟩
      rw [← hz] at hc hc'
      have d := (hnx.cell hb).trans hc
      have d' := (hnx.cell hb').trans hc'
      clear hz hc hc' hb hb'
      go_wp2
      go_quiet (fail)
      go_wp2
      go_roundw
      case rel => exact ⟨k + 1, by omega, by go_num, below_drewN hnx _⟩
      case measure => simp [intOf]; omega
    · obtain rfl : k = l.length := by omega
      go_wp2
      go_ret
      exact ⟨rfl, hnx⟩
set_option maxHeartbeats 2000000 in
set_option maxRecDepth 100000 in
theorem which_law (t : Tr) (A : Option Addr) (c : Nat) (w : World) (ht : IsT w w.heap.size t A c) :
    Calls Tryz.prog 3 #[.agg #[.int .i64 t.k, .int .i64 t.i, .slice A t.ks.length c]] w fun e w' => e = .returned (.bool true) ∧ Below w.heap.size w w' := by
  have HT := Lib.hid ht
  have B0 := Lib.hid (show Below w.heap.size w (w.alloc (.cells #[.int .i64 t.k, .int .i64 t.i, .slice A t.ks.length c] 24)) ∧ Box3 (w.alloc (.cells #[.int .i64 t.k, .int .i64 t.i, .slice A t.ks.length c] 24)) w.heap.size (.int .i64 t.k) (.int .i64 t.i) (.slice A t.ks.length c) from ⟨alB w _, Box3.new w _ _ _⟩)
  obtain ⟨l, hl⟩ : ∃ l, l = whR (fun k => (partsV k t).isSome) t := ⟨_, rfl⟩
  have SA := Lib.hid (fun (W : World) (h : Below w.heap.size w W) => hl ▸ which_any t A c W (ht.keep h h.size))
  have RA := Lib.hid (fun (W : World) (h : Below w.heap.size w W) => hl ▸ which_same t ▸ rwhich_any t A c W (ht.keep h h.size))
  have hn : l.length ≤ 7 := by
    rw [hl]
    unfold whR
    split
    · exact whTo_len _ 7
    · simp
  have HN := Lib.hid hn
  obtain ⟨f, hf⟩ : ∃ f, f = wantFN t := ⟨_, rfl⟩
  rw [← hf] at SA RA
  have e1 : ((f : Int) == (f : Int)) = true := beq_self_eq_true _
  clear ht hl hf hn
  obtain ⟨x0, x1, x2⟩ := B0.out.2.cells
  go_enter Tryz.func3, Tryz.ntmps3
  go_wp2_with fail
  refine (SA.out _ B0.out.1).mono ?_
  rintro e w1 ⟨v1, rfl, ho1, hb1⟩
  obtain ⟨A1, c1, rfl, hr1⟩ := rdI_own ho1
  have B1 := Lib.hid (And.intro (bl_trans B0.out.1 hb1) (B0.out.2.keep hb1 B0.out.2.lt))
  have R1 := Lib.hid hr1
  clear hb1 ho1 hr1 x0 x1 x2 B0
  obtain ⟨x0, x1, x2⟩ := B1.out.2.cells
  go_wp2_with fail
  refine (RA.out _ B1.out.1).mono ?_
  rintro e w2 ⟨v2, rfl, ho2, hb2⟩
  obtain ⟨A2, c2, rfl, hr2⟩ := rdI_own ho2
  have B2 := Lib.hid (bl_trans B1.out.1 hb2)
  have R2 := Lib.hid (And.intro (R1.out.keep hb2) hr2)
  clear hb2 ho2 hr2 x0 x1 x2 B1 R1
  go_wp2_with fail
  refine (same_ints7 A1 A2 c1 c2 l _ (by exact R2.out.1) (by exact R2.out.2) HN.out).mono ?_
  rintro e w5 ⟨rfl, hb5⟩
  have B5 := Lib.hid (bl_trans B2.out hb5)
  clear hb5
  go_wp2_with fail
  go_ret
  exact ⟨rfl, B5.out⟩
end Go.Proofs.YtgnfbhemkombaaaGreat
namespace Go.Proofs.YtgnfbhemkombaaaGreat
open Go.RowKit
set_option linter.unusedVariables false
set_option linter.unusedSimpArgs false
theorem made_form {k : Nat} (h1 : 1 ≤ k) (h7 : k ≤ 7) {e : Tr} {l : List Tr} {x : Int} (hm : Made k e l x) (hl : l.length = (sortsL k).length) : termB e.k = false := by
  have hk : k = 1 ∨ k = 2 ∨ k = 3 ∨ k = 4 ∨ k = 5 ∨ k = 6 ∨ k = 7 := by omega
  rcases hk with rfl | rfl | rfl | rfl | rfl | rfl | rfl
  · obtain ⟨a, b, rfl⟩ := list_two (l := l) (by simpa [sortsL] using hl)
    obtain rfl : impT a (impT b a) = e := congrArg Prod.fst hm.1
    rfl
  · obtain ⟨a, b, d, rfl⟩ := list_three (l := l) (by simpa [sortsL] using hl)
    obtain rfl : impT (impT a (impT b d)) (impT (impT a b) (impT a d)) = e := congrArg Prod.fst hm.1
    rfl
  · obtain ⟨a, b, rfl⟩ := list_two (l := l) (by simpa [sortsL] using hl)
    obtain rfl : impT (impT (notT a) (notT b)) (impT b a) = e := congrArg Prod.fst hm.1
    rfl
  · obtain ⟨a, t, rfl⟩ := list_two (l := l) (by simpa [sortsL] using hl)
    obtain ⟨rfl, _⟩ := made4 hm
    rfl
  · obtain ⟨a, b, rfl⟩ := list_two (l := l) (by simpa [sortsL] using hl)
    obtain rfl : impT (allT x (impT a b)) (impT a (allT x b)) = e := congrArg Prod.fst hm.1
    rfl
  · obtain ⟨a, rfl⟩ := list_one (l := l) (by simpa [sortsL] using hl)
    obtain rfl : eqT a a = e := congrArg Prod.fst hm.1
    rfl
  · obtain ⟨t, u, a, b, rfl⟩ := list_four (l := l) (by simpa [sortsL] using hl)
    obtain rfl : impT (eqT t u) (impT a b) = e := congrArg Prod.fst hm.1
    rfl
/-- what is made is right, of a schema that there is, and has a variable only where the schema has one -/
theorem makeD_in {k : Int} {l : List Tr} {x : Int} {e : Tr} (h : makeD k l x = (e, 0)) : 1 ≤ k ∧ k ≤ 7 ∧ rightN e = 0 ∧ (x = 0 ∨ k = 4 ∨ k = 5) := by
  rw [← make_eq] at h
  unfold makeV at h
  by_cases hk : 1 ≤ k ∧ k ≤ 7
  · obtain ⟨n, rfl⟩ : ∃ n : Nat, k = n := ⟨k.toNat, by omega⟩
    rw [if_neg (fun hh => hh hk), show (n : Int).toNat = n by omega] at h
    by_cases hf : faultN l.length (sortsL n).length (decide (n = 4 ∨ n = 5)) x (sortedN l (sortsL n)) = 0
    · rw [if_neg (fun hh => hh hf)] at h
      have hx : x = 0 ∨ n = 4 ∨ n = 5 := by
        by_cases hx : x = 0
        · exact .inl hx
        · by_cases hn : n = 4 ∨ n = 5
          · exact .inr hn
          · exfalso
            unfold faultN at hf
            rw [if_pos (.inr (.inr (.inr ⟨hx, decide_eq_false hn⟩)))] at hf
            cases hf
      refine ⟨hk.1, hk.2, ?_, by omega⟩
      cases hs : sideV n l x with
      | false =>
        rw [hs, if_pos rfl] at h
        exact absurd (congrArg Prod.snd h) (by simp)
      | true =>
        rw [hs, if_neg (by simp)] at h
        by_cases hg : (fillV n l x).2 = 0
        · rw [if_neg (fun hh => hh hg), atN_nil] at h
          have := limR_right h
          rw [this.1] at this
          exact this.2
        · rw [if_pos hg] at h
          exact absurd (congrArg Prod.snd h) hg
    · rw [if_pos hf] at h
      exact absurd (congrArg Prod.snd h) hf
  · rw [if_pos hk] at h
    exact absurd (congrArg Prod.snd h) (by simp)
theorem guess_made {k : Nat} (h1 : 1 ≤ k) (h7 : k ≤ 7) {e : Tr} {l : List Tr} {x : Int} (h : makeD (k : Int) l x = (e, 0)) : makeD (k : Int) (guessV k e).1 (guessV k e).2 = (e, 0) := by
  obtain ⟨_, _, hr, hx⟩ := makeD_in h
  obtain ⟨hm, hl, x0, x1, _⟩ := made_of_make h1 h7 h
  have hk : k = 1 ∨ k = 2 ∨ k = 3 ∨ k = 4 ∨ k = 5 ∨ k = 6 ∨ k = 7 := by omega
  rcases hk with rfl | rfl | rfl | rfl | rfl | rfl | rfl
  · obtain ⟨a, b, rfl⟩ := list_two (l := l) (by simpa [sortsL] using hl)
    obtain rfl : x = 0 := by omega
    obtain rfl : impT a (impT b a) = e := congrArg Prod.fst hm.1
    exact h
  · obtain ⟨a, b, d, rfl⟩ := list_three (l := l) (by simpa [sortsL] using hl)
    obtain rfl : x = 0 := by omega
    obtain rfl : impT (impT a (impT b d)) (impT (impT a b) (impT a d)) = e := congrArg Prod.fst hm.1
    exact h
  · obtain ⟨a, b, rfl⟩ := list_two (l := l) (by simpa [sortsL] using hl)
    obtain rfl : x = 0 := by omega
    obtain rfl : impT (impT (notT a) (notT b)) (impT b a) = e := congrArg Prod.fst hm.1
    exact h
  · obtain ⟨a, t, rfl⟩ := list_two (l := l) (by simpa [sortsL] using hl)
    obtain ⟨rfl, hrt, hkt, hx0, hx1, hra⟩ := made4 hm
    obtain ⟨hs, hsz, hdp⟩ := right_shp' hra
    have e2 : guessV 4 (impT (allT x a) (putX x t a)) = ([a, (standD x a (putX x t a)).getD (varT x)], x) := rfl
    rw [e2, standD_put x0 x1 t a hs]
    by_cases hf : hasN (freeT a) x = true
    · rw [if_pos hf]; exact h
    · rw [if_neg hf]
      have hp := putX_unfree x0 x1 t a hs (by simpa using hf)
      rw [hp] at h hr ⊢
      show makeD 4 [a, varT x] x = (impT (allT x a) a, 0)
      have rv : rightN (varT x) = 0 := right_var x0 x1
      have ka : termB a.k = false := (right_all (right_imp hr).1).2.1
      have hsd : rsideV 4 [a, varT x] x = true := by
        show ffB x (varT x) a = true
        rw [(ffB_ok x0 x1 rv hra rfl).2]
        have : catT (varsT (varT x)) x a = 0 := by rw [catT_eq, if_neg hf]
        rw [this]
        rfl
      have hfa : faultN [a, varT x].length (sortsL 4).length (decide ((4 : Nat) = 4 ∨ (4 : Nat) = 5)) x (sortedN [a, varT x] (sortsL 4)) = 0 := by
        unfold faultN
        rw [if_neg]
        · refine sorted_ok (fun q hq => ?_) ?_
          · simp at hq
            rcases hq with rfl | rfl
            · exact hra
            · exact rv
          · show ((termB a.k == false) && ((termB (varT x).k == true) && true)) = true
            rw [ka]
            rfl
        · rintro (h' | h' | h' | ⟨_, h'⟩)
          · exact h' rfl
          · omega
          · omega
          · simp at h'
      have hmv : madeV 4 [a, varT x] x = some (impT (allT x a) a) := by
        show (if (putX x (varT x) a).sz ≤ 1000 then some (impT (allT x a) (putX x (varT x) a)) else none) = _
        rw [putX_self x0 x1 a hs, if_pos hsz]
      unfold makeD
      rw [if_neg (fun hh => hh ⟨by decide, by decide⟩)]
      show (if faultN [a, varT x].length (sortsL 4).length (decide ((4 : Nat) = 4 ∨ (4 : Nat) = 5)) x (sortedN [a, varT x] (sortsL 4)) ≠ 0 then (zeroT, faultN [a, varT x].length (sortsL 4).length (decide ((4 : Nat) = 4 ∨ (4 : Nat) = 5)) x (sortedN [a, varT x] (sortsL 4))) else
        if rsideV 4 [a, varT x] x = false then (zeroT, 72) else match madeV 4 [a, varT x] x with | none => (zeroT, 20) | some t => limR t) = _
      rw [if_neg (fun hh => hh hfa), if_neg (by rw [hsd]; simp), hmv]
      show limR _ = _
      unfold limR
      rw [if_pos hr]
  · obtain ⟨a, b, rfl⟩ := list_two (l := l) (by simpa [sortsL] using hl)
    obtain rfl : impT (allT x (impT a b)) (impT a (allT x b)) = e := congrArg Prod.fst hm.1
    exact h
  · obtain ⟨a, rfl⟩ := list_one (l := l) (by simpa [sortsL] using hl)
    obtain rfl : x = 0 := by omega
    obtain rfl : eqT a a = e := congrArg Prod.fst hm.1
    exact h
  · obtain ⟨t, u, a, b, rfl⟩ := list_four (l := l) (by simpa [sortsL] using hl)
    obtain rfl : x = 0 := by omega
    obtain rfl : impT (eqT t u) (impT a b) = e := congrArg Prod.fst hm.1
    exact h
/-- what is made has parts, and these make it again -/
theorem back_math {k : Int} {e : Tr} {l : List Tr} {x : Int} (h : makeD k l x = (e, 0)) :
    ∃ q : List Tr × Int, partsR (partsV k.toNat e) k e = (some q, 0) ∧ partsR (partsD k.toNat e) k e = (some q, 0) ∧ makeD k q.1 q.2 = (e, 0) ∧ k.toNat ∈ whR (fun n => (partsV n e).isSome) e ∧ 1 ≤ k ∧ k ≤ 7 ∧ rightN e = 0 := by
  obtain ⟨h1, h7, hr, _⟩ := makeD_in h
  obtain ⟨n, rfl⟩ : ∃ n : Nat, k = n := ⟨k.toNat, by omega⟩
  rw [show (n : Int).toNat = n by omega]
  have hg := guess_made (k := n) (by omega) (by omega) h
  obtain ⟨hm, hl, _⟩ := made_of_make (k := n) (by omega) (by omega) h
  have hw : wantFN e = 0 := by
    unfold wantFN
    rw [if_pos hr, made_form (by omega) (by omega) hm hl]
    rfl
  have hD : partsD n e = some (guessV n e) := by
    unfold partsD
    rw [hg, if_pos ⟨rfl, (likeB_iff9 _ _).2 rfl⟩]
  have hV : partsV n e = some (guessV n e) := by rw [parts_eq (by omega) (by omega) hr, hD]
  have hR : ∀ p, p = some (guessV n e) → partsR p (n : Int) e = (some (guessV n e), 0) := fun p hp => by
    unfold partsR
    rw [if_neg (fun hh => hh ⟨by omega, by omega⟩), if_neg (fun hh => hh hw), hp]
  refine ⟨guessV n e, hR _ hV, hR _ hD, hg, ?_, by omega, by omega, hr⟩
  have hmem : ∀ (p : Nat → Bool) (m : Nat), n ≤ m → p n = true → n ∈ whTo p m := by
    intro p m
    induction m with
    | zero => intro hh _; omega
    | succ m ih =>
      intro hh hp
      unfold whTo
      rw [List.mem_append]
      by_cases hx : n = m + 1
      · right
        rw [← hx, if_pos hp]
        simp
      · left
        exact ih (by omega) hp
  unfold whR
  rw [if_pos hw]
  exact hmem _ 7 (by omega) (by show (partsV n e).isSome = true; rw [hV]; rfl)
/-- boxes that hold trees, and boxes that hold parts -/
structure SK (w W : World) (bs : List (Nat × Tr × Option Addr × Nat)) (ps : List (Nat × List Tr × Option Addr × Nat × Int)) : Prop where
  env : Env w W bs
  par : ∀ q ∈ ps, BoxP W q.1 q.2.2.1 q.2.1.length q.2.2.2.1 q.2.2.2.2 ∧ IsT W W.heap.size (.node 0 0 q.2.1) q.2.2.1 q.2.2.2.1
theorem SK.start (w : World) : SK w w [] [] := ⟨Env.start w, fun q hq => by simp at hq⟩
theorem SK.keep {w W W' : World} {bs : List (Nat × Tr × Option Addr × Nat)} {ps : List (Nat × List Tr × Option Addr × Nat × Int)} (h : SK w W bs ps) (hb : Below W.heap.size W W') : SK w W' bs ps :=
  ⟨h.env.keep hb, fun q hq => ⟨(h.par q hq).1.keep hb (h.par q hq).1.lt, (h.par q hq).2.keep hb hb.size⟩⟩
theorem SK.pushT {w W : World} {bs : List (Nat × Tr × Option Addr × Nat)} {ps : List (Nat × List Tr × Option Addr × Nat × Int)} {t : Tr} {A : Option Addr} {c : Nat} (h : SK w W bs ps) (ht : IsT W W.heap.size t A c) :
    SK w (W.alloc (.cells #[.int .i64 t.k, .int .i64 t.i, .slice A t.ks.length c] 24)) ((W.heap.size, t, A, c) :: bs) ps :=
  ⟨h.env.push ht, (h.keep (alB W _)).par⟩
theorem SK.pushP {w W : World} {bs : List (Nat × Tr × Option Addr × Nat)} {ps : List (Nat × List Tr × Option Addr × Nat × Int)} {l : List Tr} {A : Option Addr} {c : Nat} (h : SK w W bs ps) (ht : IsT W W.heap.size (.node 0 0 l) A c) (x : Int) :
    SK w (W.alloc (.cells #[.slice A l.length c, .int .i64 x] 32)) bs ((W.heap.size, l, A, c, x) :: ps) :=
  ⟨h.env.alloc _, fun q hq => by
    rcases List.mem_cons.1 hq with rfl | hq
    · exact ⟨BoxP.new W A l.length c x, ht.keep (alB W _) (alB W _).size⟩
    · exact (h.keep (alB W _)).par q hq⟩
theorem SK.cellsT {w W : World} {bs : List (Nat × Tr × Option Addr × Nat)} {ps : List (Nat × List Tr × Option Addr × Nat × Int)} (h : SK w W bs ps) (b : Nat) (t : Tr) (A : Option Addr) (c : Nat) (hx : (b, t, A, c) ∈ bs) : W.cell? ⟨b, 0, none⟩ = some (.int .i64 t.k) ∧ W.cell? ⟨b, 1, none⟩ = some (.int .i64 t.i) ∧ W.cell? ⟨b, 2, none⟩ = some (.slice A t.ks.length c) := h.env.cells b t A c hx
theorem SK.treeT {w W : World} {bs : List (Nat × Tr × Option Addr × Nat)} {ps : List (Nat × List Tr × Option Addr × Nat × Int)} (h : SK w W bs ps) (b : Nat) (t : Tr) (A : Option Addr) (c : Nat) (hx : (b, t, A, c) ∈ bs) : IsT W W.heap.size t A c := h.env.tree b t A c hx
theorem SK.cellsP {w W : World} {bs : List (Nat × Tr × Option Addr × Nat)} {ps : List (Nat × List Tr × Option Addr × Nat × Int)} (h : SK w W bs ps) (b : Nat) (l : List Tr) (A : Option Addr) (c : Nat) (x : Int) (hx : (b, l, A, c, x) ∈ ps) : W.cell? ⟨b, 0, none⟩ = some (.slice A l.length c) ∧ W.cell? ⟨b, 1, none⟩ = some (.int .i64 x) := (h.par _ hx).1.cells
theorem SK.treeP {w W : World} {bs : List (Nat × Tr × Option Addr × Nat)} {ps : List (Nat × List Tr × Option Addr × Nat × Int)} (h : SK w W bs ps) (b : Nat) (l : List Tr) (A : Option Addr) (c : Nat) (x : Int) (hx : (b, l, A, c, x) ∈ ps) : IsT W W.heap.size (.node 0 0 l) A c := (h.par _ hx).2
/-- is n among the first m numbers? -/
def thB (L : List Nat) (n m : Nat) : Bool := (L.take m).any (· == n)
theorem thB_succ (L : List Nat) (n m : Nat) (h : m < L.length) : thB L n (m + 1) = (thB L n m || L[m] == n) := by
  unfold thB
  rw [List.take_succ_eq_append_getElem h, List.any_append]
  simp
theorem thB_all {L : List Nat} {n : Nat} (h : n ∈ L) : thB L n L.length = true := by
  unfold thB
  rw [List.take_length, List.any_eq_true]
  exact ⟨n, h, by simp⟩
set_option maxHeartbeats 8000000 in
set_option maxRecDepth 100000 in
theorem back_law (k : Int) (l : List Tr) (A : Option Addr) (c : Nat) (x : Int) (w : World) (hl : IsT w w.heap.size (.node 0 0 l) A c) :
    Calls Tryz.prog 4 #[.int .i64 k, .agg #[.slice A l.length c, .int .i64 x]] w fun e w' => e = .returned (.bool true) ∧ Below w.heap.size w w' := by
  have S0 := Lib.hid ((SK.start w).pushP hl x)
  clear hl
  obtain ⟨t, f, htf⟩ : ∃ t f, makeD k l x = (t, f) := ⟨_, _, rfl⟩
  have TF := Lib.hid htf
  clear htf
  obtain ⟨p0, p1⟩ := S0.out.cellsP w.heap.size l A c x (by simp)
  go_enter Tryz.func4, Tryz.ntmps4
  go_wp2_with fail
  refine (rmake_any k l A c x _ (by exact S0.out.treeP w.heap.size l A c x (by simp))).mono ?_
  rintro e w1 ⟨hb1, A1, c1, i1, rfl⟩
  rw [TF.out] at i1 ⊢
  have S1 := Lib.hid ((S0.out.keep hb1).pushT i1)
  clear hb1 i1 p0 p1 S0
  obtain ⟨p0, p1⟩ := S1.out.cellsP w.heap.size l A c x (by simp)
  go_wp2_with fail
  refine (make_is k l A c x _ (by exact S1.out.treeP w.heap.size l A c x (by simp))).mono ?_
  rintro e w2 ⟨hb2, A2, c2, i2, rfl⟩
  rw [TF.out] at i2 ⊢
  have S2 := Lib.hid ((S1.out.keep hb2).pushT i2)
  clear hb2 i2 p0 p1 S1
  by_cases hf : f = 0
  · subst hf
    obtain ⟨⟨ql, qx⟩, hV, hD, hM, hW, h1, h7, hr⟩ := back_math TF.out
    obtain ⟨n, rfl⟩ : ∃ n : Nat, k = n := ⟨k.toNat, by omega⟩
    rw [show (n : Int).toNat = n by omega] at hV hD hW
    obtain ⟨L, hL⟩ : ∃ L, L = whR (fun m => (partsV m t).isSome) t := ⟨_, rfl⟩
    rw [← hL] at hW
    have IS := Lib.hid (fun (A : Option Addr) (c : Nat) (W : World) (ht : IsT W W.heap.size t A c) => (show Calls Tryz.prog 11 #[.int .i64 (n : Int), .agg #[.int .i64 t.k, .int .i64 t.i, .slice A t.ks.length c]] W fun e w' => e = .returned (.tuple #[.bool true, .int .i64 0]) ∧ Below W.heap.size W w' from by
      have h := sis_any (n : Int) t A c W ht
      rw [show (n : Int).toNat = n by omega, hV] at h
      exact h))
    have PS := Lib.hid (fun (A : Option Addr) (c : Nat) (W : World) (ht : IsT W W.heap.size t A c) => (show Calls Tryz.prog 12 #[.int .i64 (n : Int), .agg #[.int .i64 t.k, .int .i64 t.i, .slice A t.ks.length c]] W fun e w' => Below W.heap.size W w' ∧ ∃ A' c', e = .returned (.tuple #[.agg #[.slice A' ql.length c', .int .i64 qx], .int .i64 0]) ∧ IsT w' w'.heap.size (.node 0 0 ql) A' c' from by
      have h := sparts_any (n : Int) t A c W ht
      rw [show (n : Int).toNat = n by omega, hV] at h
      exact h))
    have MQ := Lib.hid (fun (A : Option Addr) (c : Nat) (W : World) (ht : IsT W W.heap.size (.node 0 0 ql) A c) => (show Calls Tryz.prog 10 #[.int .i64 (n : Int), .agg #[.slice A ql.length c, .int .i64 qx]] W fun e w' => Below W.heap.size W w' ∧ ∃ A' c', IsT w' w'.heap.size t A' c' ∧ e = .returned (.tuple #[.agg #[.int .i64 t.k, .int .i64 t.i, .slice A' t.ks.length c'], .int .i64 0]) from by
      have h := make_is (n : Int) ql A c qx W ht
      rw [show makeD (n : Int) ql qx = (t, 0) from hM] at h
      exact h))
    have WQ := Lib.hid (fun (A : Option Addr) (c : Nat) (W : World) (ht : IsT W W.heap.size t A c) => (show Calls Tryz.prog 6 #[.agg #[.int .i64 t.k, .int .i64 t.i, .slice A t.ks.length c]] W fun e w' => ∃ A' c', e = .returned (.tuple #[.slice A' L.length c', .int .i64 0]) ∧ RdI w' A' L ∧ Below W.heap.size W w' from by
      have h := which_any t A c W ht
      have hw : wantFN t = 0 := Classical.byContradiction fun hw => by
        have : L = [] := by rw [hL]; exact if_neg hw
        rw [this] at hW
        cases hW
      rw [← hL, hw] at h
      refine h.mono fun e w' hp => ?_
      obtain ⟨v, he, ho, hb⟩ := hp
      obtain ⟨A', c', rfl, hrd⟩ := rdI_own ho
      exact ⟨A', c', he, hrd, hb⟩))
    have LM := Lib.hid (thB_all hW)
    have LL := Lib.hid (show L.length ≤ 7 by
      rw [hL]
      unfold whR
      split
      · exact whTo_len _ 7
      · simp)
    clear hV hD hM hW hL h1 h7 hr TF
    obtain ⟨x0, x1, x2⟩ := S2.out.cellsT w2.heap.size t A2 c2 (by simp)
    go_wp2_with fail
    refine (IS.out A2 c2 _ (by exact S2.out.treeT w2.heap.size t A2 c2 (by simp))).mono ?_
    rintro e w3 ⟨rfl, hb3⟩
    have S3 := Lib.hid (S2.out.keep hb3)
    clear hb3 x0 x1 x2 S2
    obtain ⟨x0, x1, x2⟩ := S3.out.cellsT w2.heap.size t A2 c2 (by simp)
    go_wp2_with fail
    refine (PS.out A2 c2 _ (by exact S3.out.treeT w2.heap.size t A2 c2 (by simp))).mono ?_
    rintro e w4 ⟨hb4, A4, c4, rfl, i4⟩
    have S4 := Lib.hid ((S3.out.keep hb4).pushP i4 qx)
    clear hb4 i4 x0 x1 x2 S3
    obtain ⟨q0, q1⟩ := S4.out.cellsP w4.heap.size ql A4 c4 qx (by simp)
    go_wp2_with fail
    refine (MQ.out A4 c4 _ (by exact S4.out.treeP w4.heap.size ql A4 c4 qx (by simp))).mono ?_
    rintro e w5 ⟨hb5, A5, c5, i5, rfl⟩
    have S5 := Lib.hid ((S4.out.keep hb5).pushT i5)
    clear hb5 i5 q0 q1 S4
    obtain ⟨x0, x1, x2⟩ := S5.out.cellsT w2.heap.size t A2 c2 (by simp)
    go_wp2_with fail
    refine (WQ.out A2 c2 _ (by exact S5.out.treeT w2.heap.size t A2 c2 (by simp))).mono ?_
    rintro e w6 ⟨A6, c6, rfl, hR, hb6⟩
    have S6 := Lib.hid (S5.out.keep hb6)
    have R6 := Lib.hid hR
    clear hb6 hR x0 x1 x2 S5
    go_wp2_with fail
    go_loop [17, 67] (fun b i => ∃ m : Nat, m ≤ L.length ∧ i = .int .i64 m ∧ b = .bool (thB L n m)) (fun _ i => L.length - (intOf i).toNat)
    case atStart => exact ⟨0, Nat.zero_le _, rfl, rfl⟩
    case round =>
      obtain ⟨m, hm', rfl, rfl⟩ := hrel
      have hll := LL.out
      by_cases hlt : m < L.length
      · obtain ⟨ad, rfl, hb, hc⟩ := R6.out m hlt
        obtain ⟨z, hz⟩ : ∃ z, z = L[m] := ⟨_, rfl⟩
        rw [← hz] at hc
        have ST := Lib.hid (show thB L n (m + 1) = (thB L n m || z == n) by rw [thB_succ L n m hlt, hz])
        clear hz hb
        cases hB : thB L n m with
        | true =>
          rw [hB] at ST
          go_wp2_with fail
          go_round
          case rel => exact ⟨m + 1, by omega, by go_num, by rw [ST.out]; rfl⟩
          case measure => simp [intOf]; omega
        | false =>
          rw [hB] at ST
          have EQ := Lib.hid (show ((z : Int) == (n : Int)) = (z == n) by rw [Bool.eq_iff_iff, beq_iff_eq, beq_iff_eq]; omega)
          go_wp2_with fail
          go_round
          case rel => exact ⟨m + 1, by omega, by go_num, by rw [ST.out, ← EQ.out]; rfl⟩
          case measure => simp [intOf]; omega
      · obtain rfl : m = L.length := by omega
        rw [LM.out]
        obtain ⟨x0, x1, x2⟩ := S6.out.cellsT w2.heap.size t A2 c2 (by simp)
        obtain ⟨y0, y1, y2⟩ := S6.out.cellsT w5.heap.size t A5 c5 (by simp)
        have KA := Lib.hid (S6.out.treeT w2.heap.size t A2 c2 (by simp))
        have KB := Lib.hid (S6.out.treeT w5.heap.size t A5 c5 (by simp))
        have KC := Lib.hid S6.out.env.below
        clear S6
        go_wp2_with fail
        refine (like_any t t A2 A5 c2 c5 _ (by exact KA.out) (by exact KB.out)).mono ?_
        rintro e w9 ⟨rfl, hb9⟩
        rw [like_sameD]
        have B9 := Lib.hid (KC.out.trans (hb9.mono KC.out.size))
        clear hb9 x0 x1 x2 y0 y1 y2
        go_wp2_with fail
        go_ret
        exact ⟨rfl, B9.out⟩
  · have e1 : ((f : Int) != (f : Int)) = false := by simp
    have e2 : ((f : Int) != 0) = true := by rw [bne_iff_ne]; omega
    have e3 : ((f : Int) == (f : Int)) = true := beq_self_eq_true _
    clear hf
    go_wp2_with fail
    go_ret
    exact ⟨rfl, S2.out.env.below⟩
end Go.Proofs.YtgnfbhemkombaaaGreat
