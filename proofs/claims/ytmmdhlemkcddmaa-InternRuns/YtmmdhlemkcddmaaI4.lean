/- nodeOf of package intern. -/
import Derived.Test.YtmmdhlemkcddmaaI3
namespace Go.Proofs.Ytmmdhlemkcddmaa
open Go.RowKit
set_option linter.unusedVariables false
set_option linter.unusedSimpArgs false
theorem NdS.start {tl lo P M room : Nat} {w : World} {L : List Tr} {A : Option Addr} {c : Nat} {t : Tr} {At : Option Addr} {ct : Nat} (hT : Tab w lo P M room L A c) (htl : tl ≤ w.heap.size) :
    NdS tl lo P M room w (((w.alloc (.cells #[.int .i64 t.k, .int .i64 t.i, .slice At t.ks.length ct] 24)).alloc (.cells #[.int .i64 0, .int .i64 0, .int .i64 0, .int .i64 0, .int .i64 0, .int .i64 0] 112)).alloc (.cells #[.int .i64 t.k, .int .i64 t.i, .int .i64 0, .int .i64 0, .int .i64 0, .int .i64 0] 112)) A t At ct [] L A c := by
  have hb : Below w.heap.size w (((w.alloc (.cells #[.int .i64 t.k, .int .i64 t.i, .slice At t.ks.length ct] 24)).alloc (.cells #[.int .i64 0, .int .i64 0, .int .i64 0, .int .i64 0, .int .i64 0, .int .i64 0] 112)).alloc (.cells #[.int .i64 t.k, .int .i64 t.i, .int .i64 0, .int .i64 0, .int .i64 0, .int .i64 0] 112)) := (((Below.refl _ _).alloc (Nat.le_refl _) _).alloc (by simp) _).alloc (by simp; omega) _
  refine ⟨(Aft.refl hT).keep hb htl, ?_, ?_, ?_⟩
  · exact ((below_al _ _).block _ (by simp; omega)).trans (((below_al _ _).block _ (by simp)).trans (heap_alloc_last w _))
  · have := heap_alloc_last (w.alloc (.cells #[.int .i64 t.k, .int .i64 t.i, .slice At t.ks.length ct] 24)) (.cells #[.int .i64 0, .int .i64 0, .int .i64 0, .int .i64 0, .int .i64 0, .int .i64 0] 112)
    rw [World.size_alloc] at this
    exact ((below_al _ _).block _ (by simp)).trans this
  · have := heap_alloc_last ((w.alloc (.cells #[.int .i64 t.k, .int .i64 t.i, .slice At t.ks.length ct] 24)).alloc (.cells #[.int .i64 0, .int .i64 0, .int .i64 0, .int .i64 0, .int .i64 0, .int .i64 0] 112)) (.cells #[.int .i64 t.k, .int .i64 t.i, .int .i64 0, .int .i64 0, .int .i64 0, .int .i64 0] 112)
    rw [World.size_alloc, World.size_alloc] at this
    exact this
theorem nodR_pre (t : Tr) (x : List Tr × List Nat × Bool) : nodR t (preK [] x) = nodR t x := by
  obtain ⟨a, b, c⟩ := x
  cases c <;> simp [nodR, preK]
theorem preK_fst (x : List Tr × List Nat × Bool) : (preK [] x).1 = x.1 := rfl
set_option maxHeartbeats 4000000 in
set_option maxRecDepth 100000 in
theorem nodeOf_any (fn : Nat) (nf : Tr → List Tr → Nat) (nx : Tr → List Tr → List Tr) (w0 : World) (tl lo P M room : Nat) (hE : ∀ (args : Array Value) (w : World), Sem.run Try.prog (callFunc fn args) w = .ok (.enter fn args) w)
    (t : Tr) (h4 : t.ks.length ≤ 4) (hq : ∀ q ∈ t.ks, Acts fn nf nx w0 tl lo P M room q) (w : World) (L : List Tr) (A : Option Addr) (c : Nat) (At : Option Addr) (ct : Nat) (hb : Below tl w0 w) (htl : tl ≤ w.heap.size) (hT : Tab w lo P M room L A c) (ht : IsT w0 tl t At ct) :
    Calls Try.prog 91 #[.agg #[.int .i64 t.k, .int .i64 t.i, .slice At t.ks.length ct], .func (.func fn) #[.pointer (some ⟨P, 0, none⟩)] #[]] w fun e w' => e = .returned (nodR t (nodK nf nx t.ks L)) ∧ ∃ A' c', Aft tl lo P M room w w' A (nodK nf nx t.ks L).1 A' c' := by
  have N0 := Lib.hid (NdS.start (t := t) (At := At) (ct := ct) hT htl)
  have HQ := Lib.hid hq
  have HB := Lib.hid hb
  have HT := Lib.hid ht
  have hl := ht.len
  obtain ⟨y0, y1, y2⟩ := N0.out.be.cells
  rw [← nodR_pre, ← preK_fst]
  obtain ⟨R, hR⟩ : ∃ R, R = preK [] (nodK nf nx t.ks L) := ⟨_, rfl⟩
  rw [← hR]
  have P0 := Lib.hid (show R = preK [] (nodK nf nx (t.ks.drop 0) L) by rw [hR, List.drop_zero])
  clear hq hb hT ht hR
  go_enter Try.func91, Try.ntmps91
  go_wp2_with fail
  go_loopw [17] (fun i wx => ∃ (m : Nat) (ns : List Nat) (Lm : List Tr) (Am : Option Addr) (cm : Nat), m ≤ t.ks.length ∧ i = .int .i64 m ∧ ns.length = m ∧ R = preK ns (nodK nf nx (t.ks.drop m) Lm) ∧ NdS tl lo P M room w wx A t At ct ns Lm Am cm) (fun i _ => t.ks.length - (intOf i).toNat)
  case atStart => exact ⟨0, [], L, A, c, Nat.zero_le _, rfl, rfl, P0.out, N0.out⟩
  case round =>
    obtain ⟨m, ns, Lm, Am, cm, hm, rfl, hns, hP, hN⟩ := hrel
    have NN := Lib.hid hN
    have PP := Lib.hid hP
    have hsz := hN.aft.kp.size
    clear hN hP y0 y1 y2
    by_cases hlt : m < t.ks.length
    · obtain ⟨b, o, Aq, cq, rfl, hltb, p0, p1, p2, hkT⟩ := HT.out.kid m hlt
      have DR := Lib.hid (List.drop_eq_getElem_cons hlt)
      have AQ := Lib.hid (HQ.out t.ks[m] (List.getElem_mem hlt))
      obtain ⟨q, hq⟩ : ∃ q, q = t.ks[m] := ⟨_, rfl⟩
      rw [← hq] at p0 p1 p2 hkT DR AQ
      have KT := Lib.hid hkT
      have bw := HB.out.trans NN.out.aft.bel
      have d0 := (bw.cell hltb).trans p0
      have d1 := (bw.cell hltb).trans p1
      have d2 := (bw.cell hltb).trans p2
      have N1 := Lib.hid (NN.out.keep (below_al wr (.cells #[.int .i64 q.k, .int .i64 q.i, .slice Aq q.ks.length cq] 24)) htl)
      have B1 := Lib.hid (show Below tl w0 (wr.alloc (.cells #[.int .i64 q.k, .int .i64 q.i, .slice Aq q.ks.length cq] 24)) from HB.out.trans N1.out.aft.bel)
      obtain ⟨k0, k1, k2⟩ := (Box3.new wr (.int .i64 q.k) (.int .i64 q.i) (.slice Aq q.ks.length cq)).cells
      clear p0 p1 p2 hkT hq bw
      go_wp2_with fail
      refine (AQ.out _ Lm Am cm Aq cq (by exact B1.out) (by simp; omega) (by exact N1.out.aft.tab) KT.out).mono ?_
      rintro e w1 ⟨rfl, A1, c1, hA⟩
      subst hns
      have N2 := Lib.hid (N1.out.aft_ hA)
      clear hA AQ B1 k0 k1 k2 d0 d1 d2
      obtain ⟨v, hv⟩ : ∃ v, v = nf q Lm := ⟨_, rfl⟩
      have HV := Lib.hid hv
      rw [← hv]
      clear hv
      have hn4 : ns.length < 4 := by omega
      have c0 := N2.out.bn.cell (2 + ns.length) 0 (by rw [show 2 + ns.length = ns.length + 1 + 1 by omega, List.getElem?_cons_succ, List.getElem?_cons_succ]; unfold pad4; rw [List.getElem?_append_right (by simp)]; simp only [List.length_map, Nat.sub_self]; obtain ⟨z, hz⟩ : ∃ z, 4 - ns.length = z + 1 := ⟨3 - ns.length, by omega⟩; rw [hz]; rfl)
      have f0 := N2.out.bn.froz (2 + ns.length)
      have N3 := Lib.hid (N2.out.put htl hn4 v)
      have c3 := N3.out.bn.cell (2 + ns.length) (v : Int) (by rw [show 2 + ns.length = ns.length + 1 + 1 by omega, List.getElem?_cons_succ, List.getElem?_cons_succ]; unfold pad4; simp)
      by_cases h0 : v = 0
      · have E := Lib.hid (show R = (nx q Lm, [], false) by rw [PP.out, DR.out]; exact preK_zero nf nx ns q _ Lm (by rw [← HV.out]; exact h0))
        have hv0 : ((v : Int) == 0) = true := by simp [h0]
        replace h0 := Lib.hid h0
        obtain ⟨r0, r1, r2, r3, r4, r5⟩ := BoxN.cells6 N3.out.br
        have g0 := N3.out.br.froz 0
        have g1 := N3.out.br.froz 1
        have g2 := N3.out.br.froz 2
        have g3 := N3.out.br.froz 3
        have g4 := N3.out.br.froz 4
        have g5 := N3.out.br.froz 5
        have A6 := Lib.hid (N3.out.aft.set6 N3.out.br (by omega) (by omega) 0 0 0 0 0 0)
        have B6 := N3.out.br.set6 rfl 0 0 0 0 0 0
        unfold set6 at B6
        obtain ⟨z0, z1, z2, z3, z4, z5⟩ := B6.cells6
        replace B6 := Lib.hid B6
        go_wp2_with fail
        refine bodyPost_ret (v := nodR t R) ?_ rfl ⟨rfl, A1, c1, ?_⟩
        · rw [E.out]; simp [nodR, results, Try.results91, go_sem, z0, z1, z2, z3, z4, z5, keyA, zeros6]
        · rw [E.out]; exact A6.out
      · have E := Lib.hid (show R = preK (ns ++ [v]) (nodK nf nx (t.ks.drop (ns.length + 1)) (nx q Lm)) by rw [PP.out, DR.out, HV.out]; exact preK_step nf nx ns q _ Lm (by rw [← HV.out]; exact h0))
        have hv0 : ((v : Int) == 0) = false := by simp [h0]
        replace h0 := Lib.hid h0
        go_wp2_with fail
        go_roundw
        case rel => exact ⟨ns.length + 1, ns ++ [v], nx q Lm, A1, c1, by omega, by go_num, by simp, E.out, N3.out⟩
        case measure => simp [intOf]; omega
    · obtain rfl : m = t.ks.length := by omega
      have E := Lib.hid (show R = (Lm, ns, true) by rw [PP.out, List.drop_of_length_le (Nat.le_refl _)]; exact preK_end ns Lm)
      obtain ⟨p0, p1, p2, p3, hp⟩ : ∃ p0 p1 p2 p3, pad4 ns = [p0, p1, p2, p3] := by
        have := pad4_len (l := ns) (by omega)
        match hq : pad4 ns, this with
        | [a, b, c, d], _ => exact ⟨a, b, c, d, rfl⟩
      have BN := NN.out.bn
      rw [hp] at BN
      obtain ⟨n0, n1, n2, n3, n4, n5⟩ := BN.cells6
      obtain ⟨r0, r1, r2, r3, r4, r5⟩ := BoxN.cells6 NN.out.br
      have g0 := NN.out.br.froz 0
      have g1 := NN.out.br.froz 1
      have g2 := NN.out.br.froz 2
      have g3 := NN.out.br.froz 3
      have g4 := NN.out.br.froz 4
      have g5 := NN.out.br.froz 5
      have A6 := Lib.hid (NN.out.aft.set6 NN.out.br (by omega) (by omega) t.k t.i p0 p1 p2 p3)
      have B6 := NN.out.br.set6 rfl t.k t.i p0 p1 p2 p3
      unfold set6 at B6
      obtain ⟨z0, z1, z2, z3, z4, z5⟩ := B6.cells6
      replace B6 := Lib.hid B6
      have HP := Lib.hid hp
      clear hp BN
      go_wp2_with fail
      refine bodyPost_ret (v := nodR t R) ?_ rfl ⟨rfl, Am, cm, ?_⟩
      · rw [E.out]; simp [nodR, results, Try.results91, go_sem, z0, z1, z2, z3, z4, z5, keyA, HP.out]
      · rw [E.out]; exact A6.out
end Go.Proofs.Ytmmdhlemkcddmaa
