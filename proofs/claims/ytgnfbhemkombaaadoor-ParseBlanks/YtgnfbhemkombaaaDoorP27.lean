/- equality of the document's layer 3. -/
import Derived.Test.YtgnfbhemkombaaaDoorP26
namespace Go.Proofs.YtgnfbhemkombaaaDoor
open Go.RowKit
set_option linter.unusedVariables false
set_option linter.unusedSimpArgs false
section
variable {A : Option Addr} {c : Nat} {l rest : List Tok} {p : Nat}
set_option maxHeartbeats 8000000 in
set_option maxRecDepth 100000 in
theorem requality_any (f : Nat) (hS : TermD l A c f) (hl : l.length ≤ 8000) (w : World) (hf : rest.length + 0 < f) (hp : Pos l rest p) (h : IsToks w A c l) :
    Calls Tryd.prog 69 #[.slice A l.length c, .int .i64 (p : Int)] w (GotP w l (eqP (termP f) rest)) := by
  have HS := Lib.hid hS
  have HP := Lib.hid hp
  have hpl := hp.le
  have hb0 : Below w.heap.size w (w.alloc (.cells #[.bool false, .int .i64 0, .int .i64 0, .slice none 0 0, .int .i64 0] 62)) := (Below.refl _ _).alloc (Nat.le_refl _) _
  have H := Lib.hid h
  have H0 := Lib.hid (h.keep hb0)
  have E0 := Lib.hid (Box5.new w (.bool false) (.int .i64 0) (.int .i64 0) (.slice none 0 0) (.int .i64 0))
  have HB0 := Lib.hid hb0
  have SC := Lib.hid (HS.out rest p _ hf HP.out H0.out)
  clear hS hp h hb0
  cases hR : termP f rest with
  | bad r' =>
    have PE := Lib.hid (show eqP (termP f) rest = .bad r' by unfold eqP; rw [hR])
    rw [hR] at SC
    go_enter Tryd.func69, Tryd.ntmps69
    go_wp2_with fail
    refine SC.out.mono ?_
    rintro e w1 ⟨hb1, p1, hp1, rfl⟩
    unfold noV
    have hz1 := hb1.size
    rw [World.size_alloc] at hz1
    have bz : ∀ o, Box5 (w1.alloc o) w.heap.size (.bool false) (.int .i64 0) (.int .i64 0) (.slice none 0 0) (.int .i64 0) := fun o => (E0.out.keep hb1 (by simp)).keep ((Below.refl w1.heap.size w1).alloc (Nat.le_refl _) o) (by omega)
    have y0 := fun o => (bz o).cells.1
    have y1 := fun o => (bz o).cells.2.1
    have y2 := fun o => (bz o).cells.2.2.1
    have y3 := fun o => (bz o).cells.2.2.2.1
    have y4 := fun o => (bz o).cells.2.2.2.2
    have f0 := fun o => (bz o).frozen 0
    have f1 := fun o => (bz o).frozen 1
    have f2 := fun o => (bz o).frozen 2
    have f3 := fun o => (bz o).frozen 3
    have f4 := fun o => (bz o).frozen 4
    have BW := Lib.hid (fun o => ((HB0.out.trans (hb1.mono HB0.out.size)).alloc (show w.heap.size ≤ w1.heap.size by omega) o))
    clear bz hb1
    go_wp2_with fail
    refine bodyPost_ret (v := noV p1) (by simp [results, Tryd.results69, go_sem, noV, y0, y1, y2, y3, y4]) rfl ?_
    rw [PE.out]
    exact ⟨below_set5 (BW.out _) (Nat.le_refl _) _ _ _ _ _, p1, hp1, rfl⟩
  | ok a r1 =>
    rw [hR] at SC
    have hwi := termP_within f rest
    rw [hR] at hwi
    have hr1 : r1.length < rest.length := hwi.2
    clear hwi
    by_cases hj : stands 61 r1 = false
    · have PE := Lib.hid (show eqP (termP f) rest = .bad r1 by unfold eqP; rw [hR]; simp only []; rw [hj]; rfl)
      go_enter Tryd.func69, Tryd.ntmps69
      go_wp2_with fail
      refine SC.out.mono ?_
      rintro e w1 ⟨hb1, A1, c1, p1, hp1, rfl, ho1⟩
      unfold gotV
      have hz1 := hb1.size
      rw [World.size_alloc] at hz1
      have hba : Below w1.heap.size w1 (w1.alloc (.cells #[.bool true, .int .i64 a.k, .int .i64 a.i, .slice A1 a.ks.length c1, .int .i64 (p1 : Int)] 62)) := (Below.refl _ _).alloc (Nat.le_refl _) _
      have RB := Lib.hid ((E0.out.keep hb1 (by simp)).keep hba (show w.heap.size < w1.heap.size by omega))
      have AB := Lib.hid (Box5.new w1 (.bool true) (.int .i64 a.k) (.int .i64 a.i) (.slice A1 a.ks.length c1) (.int .i64 (p1 : Int)))
      have BW := Lib.hid ((HB0.out.trans (hb1.mono HB0.out.size)).trans (hba.mono (show w.heap.size ≤ w1.heap.size by omega)))
      have T1 := Lib.hid ((H0.out.keep hb1).keep hba)
      have HO := Lib.hid ((OwnT.same _ (fun k _ k2 => hba.block k k2) ho1).lower (show w.heap.size + 1 ≤ (w.alloc (.cells #[.bool false, .int .i64 0, .int .i64 0, .slice none 0 0, .int .i64 0] 62)).heap.size by simp))
      have HP1 := Lib.hid hp1
      have hp1l := hp1.le
      have hW1 : w1.heap.size + 1 = (w1.alloc (.cells #[.bool true, .int .i64 a.k, .int .i64 a.i, .slice A1 a.ks.length c1, .int .i64 (p1 : Int)] 62)).heap.size := by simp
      obtain ⟨g0, g1, g2, g3, g4⟩ := AB.out.cells
      clear hb1 ho1 hba hp1
      go_wp2_with fail
      generalize (w1.alloc (.cells #[.bool true, .int .i64 a.k, .int .i64 a.i, .slice A1 a.ks.length c1, .int .i64 (p1 : Int)] 62)) = W1 at RB AB BW T1 HO hW1 g0 g1 g2 g3 g4 ⊢
      generalize w1.heap.size = ab at AB HO hW1 g0 g1 g2 g3 g4 hz1 ⊢
      refine (rsign_any 61 _ T1.out HP1.out hl (by omega)).mono ?_
      rintro e w2 ⟨rfl, hb2⟩
      rw [hj]
      have hs2 := hb2.size
      have AB2 := Lib.hid (AB.out.keep hb2 (by omega))
      have RB2 := Lib.hid (RB.out.keep hb2 (by omega))
      have BW2 := Lib.hid (BW.out.trans (hb2.mono BW.out.size))
      have T2 := Lib.hid (T1.out.keep hb2)
      have HO2 := Lib.hid (OwnT.same _ (fun k _ k2 => hb2.block k (by omega)) HO.out)
      clear hb2 AB RB BW T1 HO g0 g1 g2 g3 g4
      obtain ⟨g0, g1, g2, g3, g4⟩ := AB2.out.cells
      go_wp2_with fail
      refine (rno_any p1 _).mono ?_
      rintro e w3 ⟨rfl, hb3⟩
      have b5 := RB2.out.keep hb3 RB2.out.lt
      obtain ⟨y0, y1, y2, y3, y4⟩ := b5.cells
      have f0 := b5.frozen 0
      have f1 := b5.frozen 1
      have f2 := b5.frozen 2
      have f3 := b5.frozen 3
      have f4 := b5.frozen 4
      have BX := Lib.hid (BW2.out.trans (hb3.mono BW2.out.size))
      clear b5 hb3
      go_wp2_with fail
      refine bodyPost_ret (v := noV p1) (by simp [results, Tryd.results69, go_sem, noV, y0, y1, y2, y3, y4]) rfl ?_
      rw [PE.out]
      exact ⟨below_set5 BX.out (Nat.le_refl _) _ _ _ _ _, p1, HP1.out, rfl⟩
    · have hj' : stands 61 r1 = true := by simpa using hj
      clear hj
      obtain ⟨x, r2, rfl, hx4, hx61⟩ := stands_cons hj'
      simp only [List.length_cons] at hr1
      cases hR2 : termP f r2 with
      | bad r' =>
        have PE := Lib.hid (show eqP (termP f) rest = .bad r' by unfold eqP; rw [hR]; simp only []; rw [if_pos hj']; simp only [List.tail_cons]; rw [hR2])
        go_enter Tryd.func69, Tryd.ntmps69
        go_wp2_with fail
        refine SC.out.mono ?_
        rintro e w1 ⟨hb1, A1, c1, p1, hp1, rfl, ho1⟩
        unfold gotV
        have hz1 := hb1.size
        rw [World.size_alloc] at hz1
        have hba : Below w1.heap.size w1 (w1.alloc (.cells #[.bool true, .int .i64 a.k, .int .i64 a.i, .slice A1 a.ks.length c1, .int .i64 (p1 : Int)] 62)) := (Below.refl _ _).alloc (Nat.le_refl _) _
        have RB := Lib.hid ((E0.out.keep hb1 (by simp)).keep hba (show w.heap.size < w1.heap.size by omega))
        have AB := Lib.hid (Box5.new w1 (.bool true) (.int .i64 a.k) (.int .i64 a.i) (.slice A1 a.ks.length c1) (.int .i64 (p1 : Int)))
        have BW := Lib.hid ((HB0.out.trans (hb1.mono HB0.out.size)).trans (hba.mono (show w.heap.size ≤ w1.heap.size by omega)))
        have T1 := Lib.hid ((H0.out.keep hb1).keep hba)
        have HO := Lib.hid ((OwnT.same _ (fun k _ k2 => hba.block k k2) ho1).lower (show w.heap.size + 1 ≤ (w.alloc (.cells #[.bool false, .int .i64 0, .int .i64 0, .slice none 0 0, .int .i64 0] 62)).heap.size by simp))
        have HP1 := Lib.hid hp1
        have hp1l := hp1.le
        have hW1 : w1.heap.size + 1 = (w1.alloc (.cells #[.bool true, .int .i64 a.k, .int .i64 a.i, .slice A1 a.ks.length c1, .int .i64 (p1 : Int)] 62)).heap.size := by simp
        obtain ⟨g0, g1, g2, g3, g4⟩ := AB.out.cells
        clear hb1 ho1 hba hp1
        go_wp2_with fail
        generalize (w1.alloc (.cells #[.bool true, .int .i64 a.k, .int .i64 a.i, .slice A1 a.ks.length c1, .int .i64 (p1 : Int)] 62)) = W1 at RB AB BW T1 HO hW1 g0 g1 g2 g3 g4 ⊢
        generalize w1.heap.size = ab at AB HO hW1 g0 g1 g2 g3 g4 hz1 ⊢
        refine (rsign_any 61 _ T1.out HP1.out hl (by omega)).mono ?_
        rintro e w2 ⟨rfl, hb2⟩
        rw [hj']
        have hs2 := hb2.size
        have AB2 := Lib.hid (AB.out.keep hb2 (by omega))
        have RB2 := Lib.hid (RB.out.keep hb2 (by omega))
        have BW2 := Lib.hid (BW.out.trans (hb2.mono BW.out.size))
        have T2 := Lib.hid (T1.out.keep hb2)
        have HO2 := Lib.hid (OwnT.same _ (fun k _ k2 => hb2.block k (by omega)) HO.out)
        clear hb2 AB RB BW T1 HO g0 g1 g2 g3 g4
        obtain ⟨g0, g1, g2, g3, g4⟩ := AB2.out.cells
        have e1 : ((p1 + 1 : Nat) : Int) = (p1 : Int) + 1 := by omega
        have hpt := HP1.out.lt
        have SC2 := Lib.hid (HS.out r2 (p1 + 1) w2 (by omega) HP1.out.tail T2.out)
        rw [hR2, e1] at SC2
        go_wp2_with fail
        refine SC2.out.mono ?_
        rintro e w3 ⟨hb3, p3, hp3, rfl⟩
        unfold noV
        have hs3 := hb3.size
        have bz : ∀ o, Box5 (w3.alloc o) w.heap.size (.bool false) (.int .i64 0) (.int .i64 0) (.slice none 0 0) (.int .i64 0) := fun o => (RB2.out.keep hb3 RB2.out.lt).keep ((Below.refl w3.heap.size w3).alloc (Nat.le_refl _) o) (by have := RB2.out.lt; omega)
        have y0 := fun o => (bz o).cells.1
        have y1 := fun o => (bz o).cells.2.1
        have y2 := fun o => (bz o).cells.2.2.1
        have y3 := fun o => (bz o).cells.2.2.2.1
        have y4 := fun o => (bz o).cells.2.2.2.2
        have f0 := fun o => (bz o).frozen 0
        have f1 := fun o => (bz o).frozen 1
        have f2 := fun o => (bz o).frozen 2
        have f3 := fun o => (bz o).frozen 3
        have f4 := fun o => (bz o).frozen 4
        have BX := Lib.hid (fun o => ((BW2.out.trans (hb3.mono BW2.out.size)).alloc (Nat.le_trans BW2.out.size hb3.size) o))
        clear bz hb3
        go_wp2_with fail
        refine bodyPost_ret (v := noV p3) (by simp [results, Tryd.results69, go_sem, noV, y0, y1, y2, y3, y4]) rfl ?_
        rw [PE.out]
        exact ⟨below_set5 (BX.out _) (Nat.le_refl _) _ _ _ _ _, p3, hp3, rfl⟩
      | ok b r3 =>
        have PE := Lib.hid (show eqP (termP f) rest = .ok (.node 4 0 [a, b]) r3 by unfold eqP; rw [hR]; simp only []; rw [if_pos hj']; simp only [List.tail_cons]; rw [hR2])
        go_enter Tryd.func69, Tryd.ntmps69
        go_wp2_with fail
        refine SC.out.mono ?_
        rintro e w1 ⟨hb1, A1, c1, p1, hp1, rfl, ho1⟩
        unfold gotV
        have hz1 := hb1.size
        rw [World.size_alloc] at hz1
        have hba : Below w1.heap.size w1 (w1.alloc (.cells #[.bool true, .int .i64 a.k, .int .i64 a.i, .slice A1 a.ks.length c1, .int .i64 (p1 : Int)] 62)) := (Below.refl _ _).alloc (Nat.le_refl _) _
        have RB := Lib.hid ((E0.out.keep hb1 (by simp)).keep hba (show w.heap.size < w1.heap.size by omega))
        have AB := Lib.hid (Box5.new w1 (.bool true) (.int .i64 a.k) (.int .i64 a.i) (.slice A1 a.ks.length c1) (.int .i64 (p1 : Int)))
        have BW := Lib.hid ((HB0.out.trans (hb1.mono HB0.out.size)).trans (hba.mono (show w.heap.size ≤ w1.heap.size by omega)))
        have T1 := Lib.hid ((H0.out.keep hb1).keep hba)
        have HO := Lib.hid ((OwnT.same _ (fun k _ k2 => hba.block k k2) ho1).lower (show w.heap.size + 1 ≤ (w.alloc (.cells #[.bool false, .int .i64 0, .int .i64 0, .slice none 0 0, .int .i64 0] 62)).heap.size by simp))
        have HP1 := Lib.hid hp1
        have hp1l := hp1.le
        have hW1 : w1.heap.size + 1 = (w1.alloc (.cells #[.bool true, .int .i64 a.k, .int .i64 a.i, .slice A1 a.ks.length c1, .int .i64 (p1 : Int)] 62)).heap.size := by simp
        obtain ⟨g0, g1, g2, g3, g4⟩ := AB.out.cells
        clear hb1 ho1 hba hp1
        go_wp2_with fail
        generalize (w1.alloc (.cells #[.bool true, .int .i64 a.k, .int .i64 a.i, .slice A1 a.ks.length c1, .int .i64 (p1 : Int)] 62)) = W1 at RB AB BW T1 HO hW1 g0 g1 g2 g3 g4 ⊢
        generalize w1.heap.size = ab at AB HO hW1 g0 g1 g2 g3 g4 hz1 ⊢
        refine (rsign_any 61 _ T1.out HP1.out hl (by omega)).mono ?_
        rintro e w2 ⟨rfl, hb2⟩
        rw [hj']
        have hs2 := hb2.size
        have AB2 := Lib.hid (AB.out.keep hb2 (by omega))
        have RB2 := Lib.hid (RB.out.keep hb2 (by omega))
        have BW2 := Lib.hid (BW.out.trans (hb2.mono BW.out.size))
        have T2 := Lib.hid (T1.out.keep hb2)
        have HO2 := Lib.hid (OwnT.same _ (fun k _ k2 => hb2.block k (by omega)) HO.out)
        clear hb2 AB RB BW T1 HO g0 g1 g2 g3 g4
        obtain ⟨g0, g1, g2, g3, g4⟩ := AB2.out.cells
        have e1 : ((p1 + 1 : Nat) : Int) = (p1 : Int) + 1 := by omega
        have hpt := HP1.out.lt
        have SC2 := Lib.hid (HS.out r2 (p1 + 1) w2 (by omega) HP1.out.tail T2.out)
        rw [hR2, e1] at SC2
        go_wp2_with fail
        refine SC2.out.mono ?_
        rintro e w3 ⟨hb3, A3, c3, p3, hp3, rfl, ho3⟩
        unfold gotV
        have hs3 := hb3.size
        have hba : Below w3.heap.size w3 (w3.alloc (.cells #[.bool true, .int .i64 b.k, .int .i64 b.i, .slice A3 b.ks.length c3, .int .i64 (p3 : Int)] 62)) := (Below.refl _ _).alloc (Nat.le_refl _) _
        have RB3 := Lib.hid ((RB2.out.keep hb3 RB2.out.lt).keep hba (by have := RB2.out.lt; omega))
        have AB3 := Lib.hid ((AB2.out.keep hb3 AB2.out.lt).keep hba (by have := AB2.out.lt; omega))
        have DB := Lib.hid (Box5.new w3 (.bool true) (.int .i64 b.k) (.int .i64 b.i) (.slice A3 b.ks.length c3) (.int .i64 (p3 : Int)))
        have BW3 := Lib.hid ((BW2.out.trans (hb3.mono BW2.out.size)).trans (hba.mono (Nat.le_trans BW2.out.size hb3.size)))
        have T3 := Lib.hid ((T2.out.keep hb3).keep hba)
        have HOa := Lib.hid (OwnT.same _ (fun k _ k2 => (hba.block k (by omega)).trans (hb3.block k (by omega))) HO2.out)
        have HOb := Lib.hid ((OwnT.same _ (fun k _ k2 => hba.block k k2) ho3).lower (show ab ≤ w2.heap.size by omega))
        have HP3 := Lib.hid hp3
        have hp3l := hp3.le
        have hW3 : w3.heap.size + 1 = (w3.alloc (.cells #[.bool true, .int .i64 b.k, .int .i64 b.i, .slice A3 b.ks.length c3, .int .i64 (p3 : Int)] 62)).heap.size := by simp
        have hab3 : ab < w3.heap.size := by omega
        clear g0 g1 g2 g3 g4
        obtain ⟨g0, g1, g2, g3, g4⟩ := AB3.out.cells
        obtain ⟨d0, d1, d2, d3, d4⟩ := DB.out.cells
        clear hb3 ho3 hba hp3 HO2 T2 BW2 AB2 RB2
        go_wp2_with fail
        generalize (w3.alloc (.cells #[.bool true, .int .i64 b.k, .int .i64 b.i, .slice A3 b.ks.length c3, .int .i64 (p3 : Int)] 62)) = W3 at RB3 AB3 DB BW3 T3 HOa HOb hW3 g0 g1 g2 g3 g4 d0 d1 d2 d3 d4 ⊢
        generalize w3.heap.size = db at DB HOb hW3 d0 d1 d2 d3 d4 hab3 hs3 ⊢
        have PF := Lib.hid (show Pos l r3 p3 from HP3.out)
        have hwab : w.heap.size < ab := by omega
        have d4' := fun o => (((Below.refl W3.heap.size W3).alloc (Nat.le_refl _) o).cell (p := ⟨db, 4, none⟩) (show db < W3.heap.size by omega)).trans d4
        have bz : ∀ o, Box5 (W3.alloc o) w.heap.size (.bool false) (.int .i64 0) (.int .i64 0) (.slice none 0 0) (.int .i64 0) := fun o => (Below.heap_alloc W3 o _ RB3.out.lt).trans RB3.out
        have y0 := fun o => (bz o).cells.1
        have y1 := fun o => (bz o).cells.2.1
        have y2 := fun o => (bz o).cells.2.2.1
        have y3 := fun o => (bz o).cells.2.2.2.1
        have y4 := fun o => (bz o).cells.2.2.2.2
        have f0 := fun o => (bz o).frozen 0
        have f1 := fun o => (bz o).frozen 1
        have f2 := fun o => (bz o).frozen 2
        have f3 := fun o => (bz o).frozen 3
        have f4 := fun o => (bz o).frozen 4
        clear bz
        go_wp2_with fail
        have OO := Lib.hid (show OwnT ((((((W3.alloc (.cells #[.int .i64 a.k, .int .i64 a.i, .slice A1 a.ks.length c1, .int .i64 b.k, .int .i64 b.i, .slice A3 b.ks.length c3] 24)).setCell ⟨w.heap.size, 0, none⟩ (.bool true)).setCell ⟨w.heap.size, 1, none⟩ (.int .i64 4)).setCell ⟨w.heap.size, 2, none⟩ (.int .i64 0)).setCell ⟨w.heap.size, 3, none⟩ (.slice (some ⟨W3.heap.size, 0, none⟩) 2 2)).setCell ⟨w.heap.size, 4, none⟩ (.int .i64 (p3 : Int))) (w.heap.size + 1) (W3.heap.size + 1) (.node 4 0 [a, b]) (some ⟨W3.heap.size, 0, none⟩) 2 from
          own_two (mid := ab) (hi := db) (OwnT.same _ (fun x x1 x2 => set5f_far W3 _ _ _ _ _ _ (by omega) (by omega)) HOa.out) (OwnT.same _ (fun x x1 x2 => set5f_far W3 _ _ _ _ _ _ (by omega) (by omega)) HOb.out) (by rw [set5_other _ _ _ _ _ _ _ _ (by omega)]; exact World.alloc_heap_new W3 _) (by omega))
        have BF := Lib.hid (show ∀ o x y z u v, Below w.heap.size w (((((W3.alloc o).setCell ⟨w.heap.size, 0, none⟩ x).setCell ⟨w.heap.size, 1, none⟩ y).setCell ⟨w.heap.size, 2, none⟩ z).setCell ⟨w.heap.size, 3, none⟩ u |>.setCell ⟨w.heap.size, 4, none⟩ v) from fun o x y z u v => below_set5 (BW3.out.alloc BW3.out.size o) (Nat.le_refl _) x y z u v)
        refine bodyPost_ret (v := gotV (.node 4 0 [a, b]) (some ⟨W3.heap.size, 0, none⟩) 2 p3) (by simp [results, Tryd.results69, go_sem, gotV, Tr.k, Tr.i, Tr.ks, y0, y1, y2, y3, y4]) rfl ?_
        rw [PE.out]
        exact ⟨BF.out _ _ _ _ _ _, _, 2, p3, PF.out, rfl, (OO.out.lower (Nat.le_succ _)).widen (by simp)⟩
end
end Go.Proofs.YtgnfbhemkombaaaDoor
