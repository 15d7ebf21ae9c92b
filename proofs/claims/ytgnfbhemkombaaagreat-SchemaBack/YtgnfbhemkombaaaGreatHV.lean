/- made of the document's layer 7: schema 4, Into not well. -/
import Derived.Test.YtgnfbhemkombaaaGreatHU
namespace Go.Proofs.YtgnfbhemkombaaaGreat
open Go.RowKit
set_option linter.unusedVariables false
set_option linter.unusedSimpArgs false
set_option maxHeartbeats 4000000 in
set_option maxRecDepth 100000 in
theorem made4_no (a t : Tr) (A : Option Addr) (c : Nat) (x : Int) (w : World) (x0 : 0 ≤ x) (x1 : x ≤ 63) (sa : a.sz ≤ 1000) (st : t.sz ≤ 1000) (hfit : ¬ (putX x t a).sz ≤ 1000) (hl : IsT w w.heap.size (.node 0 0 [a, t]) A c) :
    Calls Tryz.prog 25 #[.int .i64 4, .slice A 2 c, .int .i64 x] w fun e w' => e = .returned (.agg #[.bool false, .int .i64 0, .int .i64 0, .slice none 0 0, .int .i64 0]) ∧ Below w.heap.size w w' := by
  obtain ⟨g, o, Aa, ca, At, ct, rfl, hg, ⟨ha, ht⟩, ⟨ta, tt⟩, hcn⟩ := kids2 hl
  have F1 := Lib.hid (FM.start w)
  obtain ⟨W0, hW0⟩ : ∃ W0, W0 = (w.alloc (.cells #[.bool false, .int .i64 0, .int .i64 0, .slice none 0 0, .int .i64 0] 57)).alloc (.cells #[.int .i64 0, .int .i64 0, .slice none 0 0] 24) := ⟨_, rfl⟩
  rw [← hW0] at F1
  have SK := Lib.hid (show ∀ X : World, Below W0.heap.size W0 X → (X.cell? ⟨g, o, none⟩ = some (.int .i64 a.k) ∧ X.cell? ⟨g, o + 1, none⟩ = some (.int .i64 a.i) ∧ X.cell? ⟨g, o + 2, none⟩ = some (.slice Aa a.ks.length ca)) ∧ (X.cell? ⟨g, o + 3, none⟩ = some (.int .i64 t.k) ∧ X.cell? ⟨g, o + 3 + 1, none⟩ = some (.int .i64 t.i) ∧ X.cell? ⟨g, o + 3 + 2, none⟩ = some (.slice At t.ks.length ct)) from fun X hX =>
    ⟨ha.keep (F1.out.bel.trans (hX.mono F1.out.bel.size)) hg, ht.keep (F1.out.bel.trans (hX.mono F1.out.bel.size)) hg⟩)
  have TK := Lib.hid (show ∀ X : World, Below W0.heap.size W0 X → IsT X X.heap.size a Aa ca ∧ IsT X X.heap.size t At ct from fun X hX =>
    have hb := F1.out.bel.trans (hX.mono F1.out.bel.size)
    ⟨ta.keep hb hb.size, tt.keep hb hb.size⟩)
  have FRA := Lib.hid (show ∀ (X : World) (Y : Nat → Prop), (∀ k, Y k → w.heap.size ≤ k) → Below W0.heap.size W0 X → FrT Y X a Aa ca from fun X Y hY hX => FrT.ofB ta hY (F1.out.bel.trans (hX.mono F1.out.bel.size)))
  have z0 := F1.out.size
  have IN := Lib.hid (fun (W : World) (h1 : IsT W W.heap.size a Aa ca) (h2 : IsT W W.heap.size t At ct) => into_any x x0 x1 a t Aa At ca ct W sa st h1 h2)
  have Ha := Lib.hid ha
  clear hl ha ht ta tt
  have HW0 := Lib.hid hW0
  clear hW0
  go_enter Tryz.func25, Tryz.ntmps25
  go_upto_region 10 with fail
  rw [← HW0.out]
  go_cut [8] (fun p wc => ∃ nb, p = .pointer (some ⟨nb, 0, none⟩) ∧ FW w wc [] nb (.bool false) (.int .i64 0) (.int .i64 0) (.slice none 0 0) (.int .i64 0))
  case first =>
    go_region_held3 (fun w' => (w'.cell? ⟨g, o, none⟩ = some (.int .i64 a.k) ∧ w'.cell? ⟨g, o + 1, none⟩ = some (.int .i64 a.i) ∧ w'.cell? ⟨g, o + 2, none⟩ = some (.slice Aa a.ks.length ca)) ∧ (w'.cell? ⟨g, o + 3, none⟩ = some (.int .i64 t.k) ∧ w'.cell? ⟨g, o + 3 + 1, none⟩ = some (.int .i64 t.i) ∧ w'.cell? ⟨g, o + 3 + 2, none⟩ = some (.slice At t.ks.length ct)))
      (first
        | with_reducible exact SK.out _ ((Below.refl _ _).drew)
        | with_reducible exact SK.out _ ((alB _ _).drew)
        | with_reducible exact SK.out _ hw5
        | with_reducible exact SK.out _ (hw5.alloc hw5.size _)
        | with_reducible exact SK.out _ (below_setW hw5 (Nat.le_refl _) _ _ _ _ _)
        | with_reducible exact SK.out _ (below_setW (hw5.alloc hw5.size _) hw5.size _ _ _ _ _))
      (first
        | (go_at_call 58; (with_reducible refine (IN.out W0.drew (TK.out _ ((Below.refl _ _).drew)).1 (TK.out _ ((Below.refl _ _).drew)).2).mono ?_); rintro e w5 ⟨hb5, hc5⟩; rw [if_neg hfit] at hc5; replace hc5 : e = .returned (.agg #[.bool false, .int .i64 0, .int .i64 0, .slice none 0 0, .int .i64 0]) := hc5; subst hc5; have hw5 : Below W0.heap.size W0 w5 := ((Below.refl W0.heap.size W0).drew).trans hb5; clear hb5)
        | (go_at_call 58; (with_reducible refine (IN.out (W0.alloc (.cells #[.bool false, .int .i64 0, .int .i64 0, .slice none 0 0, .int .i64 0] 57)).drew (TK.out _ ((alB _ _).drew)).1 (TK.out _ ((alB _ _).drew)).2).mono ?_); rintro e w5 ⟨hb5, hc5⟩; rw [if_neg hfit] at hc5; replace hc5 : e = .returned (.agg #[.bool false, .int .i64 0, .int .i64 0, .slice none 0 0, .int .i64 0]) := hc5; subst hc5; have hw5 : Below W0.heap.size W0 w5 := ((alB W0 _).drew).trans (hb5.mono (by simp)); have zb : BoxW w5 W0.heap.size (.bool false) (.int .i64 0) (.int .i64 0) (.slice none 0 0) (.int .i64 0) := (hb5.block _ (by simp)).trans (BoxW.new W0 _ _ _ _ _); obtain ⟨zc0, zc1, zc2, zc3, zc4⟩ := zb.cells; have zf0 := zb.frozen 0; have zf1 := zb.frozen 1; have zf2 := zb.frozen 2; have zf3 := zb.frozen 3; have zf4 := zb.frozen 4; clear hb5))
    all_goals go_wp2_with fail
    all_goals go_meet
    all_goals first
      | exact ⟨_, rfl, fwA0 F1.out hw5 _ _ _ _ _⟩
      | exact ⟨_, rfl, fwB0 F1.out hw5 zb _ _ _ _ _⟩
  case rest =>
    obtain ⟨nb, rfl, hE⟩ := hcut
    have E := Lib.hid hE
    obtain ⟨n0, n1, n2, n3, n4⟩ := hE.wb.cells
    have wf0 := hE.fm.wb.frozen 0
    have wf1 := hE.fm.wb.frozen 1
    have wf2 := hE.fm.wb.frozen 2
    have wf3 := hE.fm.wb.frozen 3
    have wf4 := hE.fm.wb.frozen 4
    obtain ⟨v0, v1, v2, v3, v4⟩ := hE.fm.wb.cells
    obtain ⟨p0, p1, p2, p3, p4⟩ := (hE.fm.wb.set5 (.bool false) (.int .i64 0) (.int .i64 0) (.slice none 0 0) (.int .i64 0)).cells
    clear hE
    go_wp2_with fail
    exact bodyPost_ret (v := .agg #[.bool false, .int .i64 0, .int .i64 0, .slice none 0 0, .int .i64 0]) (by simp [results, Tryz.results25, go_sem, p0, p1, p2, p3, p4]) rfl ⟨rfl, below_setW E.out.fm.bel (Nat.le_refl _) _ _ _ _ _⟩
end Go.Proofs.YtgnfbhemkombaaaGreat
