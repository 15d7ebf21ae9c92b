/- made of the document's layer 7: schema 4, Into well. -/
import Derived.Test.YtgnfbhemkombaaaGreatHU
namespace Go.Proofs.YtgnfbhemkombaaaGreat
open Go.RowKit
set_option linter.unusedVariables false
set_option linter.unusedSimpArgs false
set_option maxHeartbeats 4000000 in
set_option maxRecDepth 100000 in
theorem made4_yes (a t P : Tr) (A : Option Addr) (c : Nat) (x : Int) (w : World) (x0 : 0 ≤ x) (x1 : x ≤ 63) (sa : a.sz ≤ 1000) (st : t.sz ≤ 1000) (hP : putX x t a = P) (hfit : P.sz ≤ 1000) (fa : a.fit) (fP : P.fit) (hl : IsT w w.heap.size (.node 0 0 [a, t]) A c) :
    Calls Tryz.prog 25 #[.int .i64 4, .slice A 2 c, .int .i64 x] w (MadeP w (impT (allT x a) P)) := by
  obtain ⟨g, o, Aa, ca, At, ct, rfl, hg, ⟨ha, ht⟩, ⟨ta, tt⟩, hcn⟩ := kids2 hl
  have F1 := Lib.hid (FM.start w)
  have FT := Lib.hid (show (impT (allT x a) P).fit from fit_node2 (fit_node1 fa) fP)
  have FP := Lib.hid fP
  obtain ⟨W0, hW0⟩ : ∃ W0, W0 = (w.alloc (.cells #[.bool false, .int .i64 0, .int .i64 0, .slice none 0 0, .int .i64 0] 57)).alloc (.cells #[.int .i64 0, .int .i64 0, .slice none 0 0] 24) := ⟨_, rfl⟩
  rw [← hW0] at F1
  have SK := Lib.hid (show ∀ X : World, Below W0.heap.size W0 X → (X.cell? ⟨g, o, none⟩ = some (.int .i64 a.k) ∧ X.cell? ⟨g, o + 1, none⟩ = some (.int .i64 a.i) ∧ X.cell? ⟨g, o + 2, none⟩ = some (.slice Aa a.ks.length ca)) ∧ (X.cell? ⟨g, o + 3, none⟩ = some (.int .i64 t.k) ∧ X.cell? ⟨g, o + 3 + 1, none⟩ = some (.int .i64 t.i) ∧ X.cell? ⟨g, o + 3 + 2, none⟩ = some (.slice At t.ks.length ct)) from fun X hX =>
    ⟨ha.keep (F1.out.bel.trans (hX.mono F1.out.bel.size)) hg, ht.keep (F1.out.bel.trans (hX.mono F1.out.bel.size)) hg⟩)
  have TK := Lib.hid (show ∀ X : World, Below W0.heap.size W0 X → IsT X X.heap.size a Aa ca ∧ IsT X X.heap.size t At ct from fun X hX =>
    have hb := F1.out.bel.trans (hX.mono F1.out.bel.size)
    ⟨ta.keep hb hb.size, tt.keep hb hb.size⟩)
  have FRA := Lib.hid (show ∀ (X : World) (Y : Nat → Prop), (∀ k, Y k → w.heap.size ≤ k) → Below W0.heap.size W0 X → FrT Y X a Aa ca from fun X Y hY hX => FrT.ofB ta hY (F1.out.bel.trans (hX.mono F1.out.bel.size)))
  have z0 := F1.out.size
  have IN := Lib.hid (fun (W : World) (h1 : IsT W W.heap.size a Aa ca) (h2 : IsT W W.heap.size t At ct) => into_any x x0 x1 a t Aa At ca ct W sa st h1 h2)
  rw [hP] at IN
  have Ha := Lib.hid ha
  clear hl ha ht ta tt fa fP hP
  have HW0 := Lib.hid hW0
  clear hW0
  go_enter Tryz.func25, Tryz.ntmps25
  go_upto_region 10 with fail
  rw [← HW0.out]
  go_cut [8] (fun p wc => ∃ nb Q cq, p = .pointer (some ⟨nb, 0, none⟩) ∧ FW w wc [(P, Q, cq), (a, Aa, ca)] nb (.bool true) (.int .i64 P.k) (.int .i64 P.i) (.slice Q P.ks.length cq) (.int .i64 (P.sz : Int)))
  case first =>
    go_region_held3 (fun w' => (w'.cell? ⟨g, o, none⟩ = some (.int .i64 a.k) ∧ w'.cell? ⟨g, o + 1, none⟩ = some (.int .i64 a.i) ∧ w'.cell? ⟨g, o + 2, none⟩ = some (.slice Aa a.ks.length ca)) ∧ (w'.cell? ⟨g, o + 3, none⟩ = some (.int .i64 t.k) ∧ w'.cell? ⟨g, o + 3 + 1, none⟩ = some (.int .i64 t.i) ∧ w'.cell? ⟨g, o + 3 + 2, none⟩ = some (.slice At t.ks.length ct)))
      (first
        | with_reducible exact SK.out _ ((Below.refl _ _).drew)
        | with_reducible exact SK.out _ ((alB _ _).drew)
        | with_reducible exact SK.out _ hw5
        | with_reducible exact SK.out _ (hw5.alloc hw5.size _)
        | with_reducible exact SK.out _ (below_setW hw5 (Nat.le_refl _) _ _ _ _ _)
        | with_reducible exact SK.out _ (below_setW (hw5.alloc hw5.size _) hw5.size _ _ _ _ _))
      (first
        | (go_at_call 58; (with_reducible refine (IN.out W0.drew (TK.out _ ((Below.refl _ _).drew)).1 (TK.out _ ((Below.refl _ _).drew)).2).mono ?_); rintro e w5 ⟨hb5, hc5⟩; rw [if_pos hfit] at hc5; obtain ⟨Q, cq, he, ho5⟩ := hc5; replace he : e = .returned (.agg #[.bool true, .int .i64 P.k, .int .i64 P.i, .slice Q P.ks.length cq, .int .i64 (P.sz : Int)]) := he; subst he; have hw5 : Below W0.heap.size W0 w5 := ((Below.refl W0.heap.size W0).drew).trans hb5; have HO := Lib.hid (show ∃ lo, lo = W0.heap.size ∧ OwnT w5 lo w5.heap.size P Q cq from ⟨_, rfl, ho5⟩); clear hb5 ho5)
        | (go_at_call 58; (with_reducible refine (IN.out (W0.alloc (.cells #[.bool false, .int .i64 0, .int .i64 0, .slice none 0 0, .int .i64 0] 57)).drew (TK.out _ ((alB _ _).drew)).1 (TK.out _ ((alB _ _).drew)).2).mono ?_); rintro e w5 ⟨hb5, hc5⟩; rw [if_pos hfit] at hc5; obtain ⟨Q, cq, he, ho5⟩ := hc5; replace he : e = .returned (.agg #[.bool true, .int .i64 P.k, .int .i64 P.i, .slice Q P.ks.length cq, .int .i64 (P.sz : Int)]) := he; subst he; have hw5 : Below W0.heap.size W0 w5 := ((alB W0 _).drew).trans (hb5.mono (by simp)); have zb : BoxW w5 W0.heap.size (.bool false) (.int .i64 0) (.int .i64 0) (.slice none 0 0) (.int .i64 0) := (hb5.block _ (by simp)).trans (BoxW.new W0 _ _ _ _ _); obtain ⟨zc0, zc1, zc2, zc3, zc4⟩ := zb.cells; have zf0 := zb.frozen 0; have zf1 := zb.frozen 1; have zf2 := zb.frozen 2; have zf3 := zb.frozen 3; have zf4 := zb.frozen 4; have HO := Lib.hid (show ∃ lo, lo = W0.heap.size + 1 ∧ OwnT w5 lo w5.heap.size P Q cq from ⟨_, rfl, by simpa using ho5⟩); clear hb5 ho5))
    all_goals go_wp2_with fail
    all_goals go_meet
    all_goals obtain ⟨lo, hlo, hO⟩ := HO.out
    all_goals first
      | exact ⟨_, Q, cq, rfl, fwA F1.out hw5 hO (by omega) FP.out FRA.out _ _ _ _ _⟩
      | exact ⟨_, Q, cq, rfl, fwB F1.out hw5 zb hO (by omega) FP.out FRA.out _ _ _ _ _⟩
  case rest =>
    obtain ⟨nb, Q, cq, rfl, hE⟩ := hcut
    have E := Lib.hid (show FW w wc.drew [(P, Q, cq), (a, Aa, ca)] nb (.bool true) (.int .i64 P.k) (.int .i64 P.i) (.slice Q P.ks.length cq) (.int .i64 (P.sz : Int)) from hE.keep (Below.refl _ _).drew)
    obtain ⟨n0, n1, n2, n3, n4⟩ := hE.wb.cells
    clear hE
    have f0 := E.out.fm.froz 0
    have f1 := E.out.fm.froz 1
    have f2 := E.out.fm.froz 2
    go_wp2_with fail
    go_region_held3 (fun w' => (w'.cell? ⟨g, o, none⟩ = some (.int .i64 a.k) ∧ w'.cell? ⟨g, o + 1, none⟩ = some (.int .i64 a.i) ∧ w'.cell? ⟨g, o + 2, none⟩ = some (.slice Aa a.ks.length ca)) ∧ (w'.cell? ⟨nb, 1, none⟩ = some (.int .i64 P.k) ∧ w'.cell? ⟨nb, 1 + 1, none⟩ = some (.int .i64 P.i) ∧ w'.cell? ⟨nb, 1 + 2, none⟩ = some (.slice Q P.ks.length cq)))
      (first | exact ⟨Ha.out.keep E.out.fm.bel hg, E.out.wb.cells.2.1, E.out.wb.cells.2.2.1, E.out.wb.cells.2.2.2.1⟩ | exact ⟨Ha.out.keep (E.out.set _ _ _).fm.bel hg, (E.out.set _ _ _).wb.cells.2.1, (E.out.set _ _ _).wb.cells.2.2.1, (E.out.set _ _ _).wb.cells.2.2.2.1⟩)
      (first
        | (go_at_call 59; refine (rall_any (RX w) x a Aa ca _ E.out.fm.hX (E.out.fm.ft a Aa ca (by simp))).mono ?_; rintro e5 w5 ⟨R0, r0, rfl, h5, hb5⟩; replace E := Lib.hid ((E.out.keep hb5).more h5); have f0 := E.out.fm.froz 0; have f1 := E.out.fm.froz 1; have f2 := E.out.fm.froz 2; obtain ⟨u5, v5, y5, hr5⟩ := E.out.fm.rb; obtain ⟨s0, s1, s2⟩ := hr5.cells; clear hb5 h5 hr5)
        | (go_at_call 56; refine (rimp_any (RX w) (allT x a) P R0 Q r0 cq _ E.out.fm.hX (E.out.fm.ft (allT x a) R0 r0 (by simp)) (E.out.fm.ft P Q cq (by simp))).mono ?_; rintro e5 w5 ⟨R1, r1, rfl, h5, hb5⟩; replace E := Lib.hid ((E.out.keep hb5).more h5); have f0 := E.out.fm.froz 0; have f1 := E.out.fm.froz 1; have f2 := E.out.fm.froz 2; obtain ⟨u5, v5, y5, hr5⟩ := E.out.fm.rb; obtain ⟨s0, s1, s2⟩ := hr5.cells; clear hb5 h5 hr5))
    all_goals
      have E2 := Lib.hid (E.out.fm.set (.int .i64 (impT (allT x a) P).k) (.int .i64 (impT (allT x a) P).i) (.slice R1 (impT (allT x a) P).ks.length r1))
      have RS := Lib.hid (E.out.fm.res (.int .i64 (impT (allT x a) P).k) (.int .i64 (impT (allT x a) P).i) (.slice R1 (impT (allT x a) P).ks.length r1))
      obtain ⟨q0, q1, q2⟩ := RS.out.cells
      clear n0 n1 n2 n3 n4
      go_wp2_with fail
      refine (copy_any (impT (allT x a) P).sz (impT (allT x a) P) R1 r1 _ (Nat.le_refl _) (by exact (E2.out.ft (impT (allT x a) P) R1 r1 (by simp)).isT)).mono ?_
      rintro e9 w9 ⟨A9, c9, rfl, ho9, hb9⟩
      have E9 := Lib.hid (E2.out.keep hb9)
      have O9 := Lib.hid ho9
      have z9 := E2.out.size
      have wf0 := E9.out.wb.frozen 0
      have wf1 := E9.out.wb.frozen 1
      have wf2 := E9.out.wb.frozen 2
      have wf3 := E9.out.wb.frozen 3
      have wf4 := E9.out.wb.frozen 4
      obtain ⟨v0, v1, v2, v3, v4⟩ := E9.out.wb.cells
      clear hb9 ho9
      go_wp2_with fail
      obtain ⟨p0, p1, p2, p3, p4⟩ := (E9.out.wb.set5 (.bool true) (.int .i64 (impT (allT x a) P).k) (.int .i64 (impT (allT x a) P).i) (.slice A9 (impT (allT x a) P).ks.length c9) (.int .i64 0)).cells
      obtain ⟨mi, mb⟩ := made_mem E9.out O9.out (by omega) FT.out (.bool true) (.int .i64 (impT (allT x a) P).k) (.int .i64 (impT (allT x a) P).i) (.slice A9 (impT (allT x a) P).ks.length c9) (.int .i64 0)
      exact bodyPost_ret (v := .agg #[.bool true, .int .i64 (impT (allT x a) P).k, .int .i64 (impT (allT x a) P).i, .slice A9 (impT (allT x a) P).ks.length c9, .int .i64 0]) (by simp [results, Tryz.results25, go_sem, p0, p1, p2, p3, p4]) rfl ⟨A9, c9, rfl, mi, mb⟩
end Go.Proofs.YtgnfbhemkombaaaGreat
