/- quantified, equality, pair of the document's layer 3. -/
import Derived.Test.YtgnfbhemkombaaaDoorP25
import Derived.Deep.RegionHeld3
namespace Go.Proofs.YtgnfbhemkombaaaDoor
open Go.RowKit
set_option linter.unusedVariables false
set_option linter.unusedSimpArgs false
/-- a tree of one kid, which lies in a row of its own -/
theorem own_one {W : World} {lo hi g : Nat} {k i : Int} {a : Tr} {A : Option Addr} {c : Nat} (ho : OwnT W lo hi a A c) (hg : W.heap[g]? = some (.cells #[.int .i64 a.k, .int .i64 a.i, .slice A a.ks.length c] 24 (0, 0))) (hlo : hi ≤ g) : OwnT W lo (g + 1) (.node k i [a]) (some ⟨g, 0, none⟩) 1 := by
  have hl := ho.le
  refine ownT_eq.2 ⟨[(A, c)], rfl, ⟨rfl, .inr ⟨g, 1, #[.int .i64 a.k, .int .i64 a.i, .slice A a.ks.length c], rfl, by omega, hg, Nat.le_refl _, by unfold maxLen; omega, rfl, rfl⟩⟩, fun g' e => ?_, ?_⟩
  · simp [Value.ownBlock, Tr.ks] at e; omega
  · refine ownL_cons.2 ⟨lo, hi, Nat.le_refl _, hl, ?_, ho, by simp [OwnL]; omega⟩
    intro g' e hin
    simp [Value.ownBlock, Tr.ks] at e
    omega
/-- a tree of two kids, which lie in a row of their own -/
theorem own_two {W : World} {lo mid hi g : Nat} {k i : Int} {a b : Tr} {A B : Option Addr} {c d : Nat} (ha : OwnT W lo mid a A c) (hb : OwnT W mid hi b B d) (hg : W.heap[g]? = some (.cells #[.int .i64 a.k, .int .i64 a.i, .slice A a.ks.length c, .int .i64 b.k, .int .i64 b.i, .slice B b.ks.length d] 24 (0, 0))) (hlo : hi ≤ g) : OwnT W lo (g + 1) (.node k i [a, b]) (some ⟨g, 0, none⟩) 2 := by
  have hl := ha.le
  have hl2 := hb.le
  refine ownT_eq.2 ⟨[(A, c), (B, d)], rfl, ⟨rfl, .inr ⟨g, 2, #[.int .i64 a.k, .int .i64 a.i, .slice A a.ks.length c, .int .i64 b.k, .int .i64 b.i, .slice B b.ks.length d], rfl, by omega, hg, Nat.le_refl _, by unfold maxLen; omega, rfl, rfl⟩⟩, fun g' e => ?_, ?_⟩
  · simp [Value.ownBlock, Tr.ks] at e; omega
  · refine ownL_cons.2 ⟨lo, mid, Nat.le_refl _, hl, ?_, ha, ownL_cons.2 ⟨mid, hi, Nat.le_refl _, hl2, ?_, hb, by simp [OwnL]; omega⟩⟩
    all_goals
      intro g' e hin
      simp [Value.ownBlock, Tr.ks] at e
      omega
def FormD (l : List Tok) (A : Option Addr) (c : Nat) (f : Nat) : Prop := ∀ (rest : List Tok) (p : Nat) (w : World), rest.length + 1 < f → Pos l rest p → IsToks w A c l →
  Calls Tryd.prog 34 #[.slice A l.length c, .int .i64 (p : Int)] w (GotP w l (formP f rest))
theorem cell_far {W X : World} {k : Nat} (h : X.heap[k]? = W.heap[k]?) (o : Nat) : X.cell? ⟨k, o, none⟩ = W.cell? ⟨k, o, none⟩ := World.cell?_of_block (w := W) (a := ⟨k, o, none⟩) h
theorem drew_far (W : World) (k : Nat) : W.drew.heap[k]? = W.heap[k]? := rfl
theorem allocd_far (W : World) (o : Obj) {k : Nat} (h : k < W.heap.size) : (W.alloc o).drew.heap[k]? = W.heap[k]? := Below.heap_alloc W o k h
theorem set5e_far (W : World) (o : Obj) {b : Nat} (x y z u v : Value) {k : Nat} (h : k < W.heap.size) (h2 : k ≠ b) : (((((W.alloc o).setCell ⟨b, 0, none⟩ x).setCell ⟨b, 1, none⟩ y).setCell ⟨b, 2, none⟩ z).setCell ⟨b, 3, none⟩ u |>.setCell ⟨b, 4, none⟩ v).drew.heap[k]? = W.heap[k]? := (drew_far _ k).trans ((set5_other _ _ _ _ _ _ _ _ h2).trans (Below.heap_alloc W o k h))
theorem set5f_far (W : World) (o : Obj) {b : Nat} (x y z u v : Value) {k : Nat} (h : k < W.heap.size) (h2 : k ≠ b) : (((((W.alloc o).setCell ⟨b, 0, none⟩ x).setCell ⟨b, 1, none⟩ y).setCell ⟨b, 2, none⟩ z).setCell ⟨b, 3, none⟩ u |>.setCell ⟨b, 4, none⟩ v).heap[k]? = W.heap[k]? := (set5_other _ _ _ _ _ _ _ _ h2).trans (Below.heap_alloc W o k h)
theorem alloc_far (W : World) (o : Obj) {k : Nat} (h : k < W.heap.size) : (W.drew.alloc o).heap[k]? = W.heap[k]? := Below.heap_alloc W.drew o k h
section
variable {A : Option Addr} {c : Nat} {l rest : List Tok} {p : Nat}
set_option maxHeartbeats 4000000 in
set_option maxRecDepth 100000 in
theorem rquant_any (f : Nat) (hF : FormD l A c f) (hl : l.length ≤ 8000) (k : Nat) (w : World) (hf : rest.length < f) (hp : Pos l rest p) (h : IsToks w A c l) :
    Calls Tryd.prog 65 #[.slice A l.length c, .int .i64 (p : Int), .int .i64 (k : Int)] w (GotP w l (quantP (formP f) k rest)) := by
  have HF := Lib.hid hF
  have HP := Lib.hid hp
  have hpl := hp.le
  have hb0 : Below w.heap.size w (w.alloc (.cells #[.bool false, .int .i64 0, .int .i64 0, .slice none 0 0, .int .i64 0] 62)) := (Below.refl _ _).alloc (Nat.le_refl _) _
  have H := Lib.hid h
  have H0 := Lib.hid (h.keep hb0)
  have E0 := Lib.hid (Box5.new w (.bool false) (.int .i64 0) (.int .i64 0) (.slice none 0 0) (.int .i64 0))
  have HB0 := Lib.hid hb0
  clear hF hp h hb0
  by_cases h1 : kindN rest = 1
  · obtain ⟨t, r, rfl⟩ : ∃ t r, rest = t :: r := by
      cases rest with
      | nil => cases h1
      | cons t r => exact ⟨t, r, rfl⟩
    have hk : t.k = 1 := h1
    have P := Lib.hid (show quantP (formP f) k (t :: r) = match formP f r with | .bad r' => .bad r' | .ok a r1 => .ok (.node k t.n [a]) r1 by simp only [quantP]; rw [if_pos hk]; cases formP f r <;> rfl)
    have hpt := HP.out.lt
    simp only [List.length_cons] at hf
    have e1 : ((p + 1 : Nat) : Int) = (p : Int) + 1 := by omega
    cases hR : formP f r with
    | bad r' =>
      rw [hR] at P
      go_enter Tryd.func65, Tryd.ntmps65
      go_wp2_with fail
      refine (rkindAt_any _ H0.out HP.out hl).mono ?_
      rintro e w1 ⟨rfl, hb1⟩
      rw [h1]
      have T1 := H0.out.keep hb1
      have B1 := Lib.hid (E0.out.keep hb1 (by simp))
      have BB1 := Lib.hid (HB0.out.trans (hb1.mono HB0.out.size))
      have FC := Lib.hid (HF.out r (p + 1) w1 (by omega) HP.out.tail T1)
      rw [hR, e1] at FC
      clear hb1 T1
      go_wp2_with fail
      refine FC.out.mono ?_
      rintro e w2 ⟨hb2, p2, hp2, rfl⟩
      unfold noV
      have bz : ∀ o, Box5 (w2.alloc o) w.heap.size (.bool false) (.int .i64 0) (.int .i64 0) (.slice none 0 0) (.int .i64 0) := fun o => (B1.out.keep hb2 B1.out.lt).keep ((Below.refl w2.heap.size w2).alloc (Nat.le_refl _) o) (by have := hb2.size; have := B1.out.lt; omega)
      have y0 := fun o => (bz o).cells.1
      have y1 := fun o => (bz o).cells.2.1
      have y2 := fun o => (bz o).cells.2.2.1
      have y3 := fun o => (bz o).cells.2.2.2.1
      have y4 := fun o => (bz o).cells.2.2.2.2
      have f0 := fun o => (bz o).frozen 0
      have f1 := fun o => (bz o).frozen 1
      have f2 := fun o => (bz o).frozen 2
      have f3 := fun o => (bz o).frozen 3
      have f4 := fun o => (bz o).frozen 4
      have BW := Lib.hid (fun o => ((BB1.out.trans (hb2.mono BB1.out.size)).alloc (Nat.le_trans BB1.out.size hb2.size) o))
      clear bz hb2
      go_wp2_with fail
      refine bodyPost_ret (v := noV p2) (by simp [results, Tryd.results65, go_sem, noV, y0, y1, y2, y3, y4]) rfl ?_
      rw [P.out]
      exact ⟨below_set5 (BW.out _) (Nat.le_refl _) _ _ _ _ _, p2, hp2, rfl⟩
    | ok a r2 =>
      rw [hR] at P
      obtain ⟨b, rfl, hlc, hlt0, _, _, _⟩ := H.out.at HP.out
      go_enter Tryd.func65, Tryd.ntmps65
      go_wp2_with fail
      refine (rkindAt_any _ H0.out HP.out hl).mono ?_
      rintro e w1 ⟨rfl, hb1⟩
      rw [h1]
      have T1 := H0.out.keep hb1
      have B1 := Lib.hid (E0.out.keep hb1 (by simp))
      have BB1 := Lib.hid (HB0.out.trans (hb1.mono HB0.out.size))
      have FC := Lib.hid (HF.out r (p + 1) w1 (by omega) HP.out.tail T1)
      rw [hR, e1] at FC
      obtain ⟨b', e', _, hlt, d0', d1', d2'⟩ := T1.at HP.out
      cases e'
      clear hb1 T1
      go_wp2_with fail
      refine FC.out.mono ?_
      rintro e w2 ⟨hb2, A2, c2, p2, hp2, rfl, ho⟩
      unfold gotV
      have hs2 := hb2.size
      have hw1 := B1.out.lt
      have hba : Below w2.heap.size w2 (w2.alloc (.cells #[.bool true, .int .i64 a.k, .int .i64 a.i, .slice A2 a.ks.length c2, .int .i64 (p2 : Int)] 62)) := (Below.refl _ _).alloc (Nat.le_refl _) _
      have d1 := (hba.cell (p := ⟨b, p * 3 + 1, none⟩) (show b < w2.heap.size by omega)).trans ((hb2.cell (p := ⟨b, p * 3 + 1, none⟩) hlt).trans d1')
      have GB := Lib.hid (Box5.new w2 (.bool true) (.int .i64 a.k) (.int .i64 a.i) (.slice A2 a.ks.length c2) (.int .i64 (p2 : Int)))
      have RB := Lib.hid ((B1.out.keep hb2 hw1).keep hba (show w.heap.size < w2.heap.size by omega))
      have BW := Lib.hid ((BB1.out.trans (hb2.mono BB1.out.size)).trans (hba.mono (Nat.le_trans BB1.out.size hb2.size)))
      have HO := Lib.hid ((OwnT.same _ (fun k _ k2 => hba.block k k2) ho).lower (show w.heap.size + 1 ≤ w1.heap.size from hw1))
      clear d0' d1' d2'
      have hpi : (p : Int) < (l.length : Int) := by omega
      have hW2 : w2.heap.size + 1 = (w2.alloc (.cells #[.bool true, .int .i64 a.k, .int .i64 a.i, .slice A2 a.ks.length c2, .int .i64 (p2 : Int)] 62)).heap.size := by simp
      obtain ⟨g1, g2, g3, g4, g5⟩ := GB.out.cells
      go_wp2_with fail
      generalize (w2.alloc (.cells #[.bool true, .int .i64 a.k, .int .i64 a.i, .slice A2 a.ks.length c2, .int .i64 (p2 : Int)] 62)) = W at d1 GB RB BW HO hW2 g1 g2 g3 g4 g5 ⊢
      have hgn : w.heap.size < w2.heap.size := by omega
      have hbW : b < W.heap.size := by omega
      generalize w2.heap.size = gb at GB HO hW2 g1 g2 g3 g4 g5 hgn ⊢
      have SK := Lib.hid (show ∀ X : World, (∀ k, k < W.heap.size → k ≠ w.heap.size → X.heap[k]? = W.heap[k]?) → X.cell? ⟨b, p * 3 + 1, none⟩ = some (.int .i64 (t.n : Int)) ∧ X.cell? ⟨gb, 1, none⟩ = some (.int .i64 a.k) ∧ X.cell? ⟨gb, 2, none⟩ = some (.int .i64 a.i) ∧ X.cell? ⟨gb, 3, none⟩ = some (.slice A2 a.ks.length c2) ∧ X.cell? ⟨gb, 4, none⟩ = some (.int .i64 (p2 : Int)) from fun X hX =>
        ⟨(cell_far (hX b (by omega) (by omega)) _).trans d1, (cell_far (hX gb (by omega) (by omega)) _).trans g2, (cell_far (hX gb (by omega) (by omega)) _).trans g3, (cell_far (hX gb (by omega) (by omega)) _).trans g4, (cell_far (hX gb (by omega) (by omega)) _).trans g5⟩)
      have bz : ∀ o, Box5 (W.alloc o) w.heap.size (.bool false) (.int .i64 0) (.int .i64 0) (.slice none 0 0) (.int .i64 0) := fun o => (alloc_far W o RB.out.lt).trans RB.out
      have y0 := fun o => (bz o).cells.1
      have y1 := fun o => (bz o).cells.2.1
      have y2 := fun o => (bz o).cells.2.2.1
      have y3 := fun o => (bz o).cells.2.2.2.1
      have y4 := fun o => (bz o).cells.2.2.2.2
      have f0 := fun o => (bz o).frozen 0
      have f1 := fun o => (bz o).frozen 1
      have f2 := fun o => (bz o).frozen 2
      have f3 := fun o => (bz o).frozen 3
      have f4 := fun o => (bz o).frozen 4
      clear bz d1 g1 g2 g3 g4 g5
      go_region_held3 (fun w' => w'.cell? ⟨b, p * 3 + 1, none⟩ = some (.int .i64 (t.n : Int)) ∧ w'.cell? ⟨gb, 1, none⟩ = some (.int .i64 a.k) ∧ w'.cell? ⟨gb, 2, none⟩ = some (.int .i64 a.i) ∧ w'.cell? ⟨gb, 3, none⟩ = some (.slice A2 a.ks.length c2) ∧ w'.cell? ⟨gb, 4, none⟩ = some (.int .i64 (p2 : Int)))
        (first | with_reducible exact SK.out _ (fun k h1 _ => allocd_far W _ h1) | with_reducible exact SK.out _ (fun k _ _ => drew_far W k) | with_reducible exact SK.out _ (fun k h1 h2 => set5e_far W _ _ _ _ _ _ h1 h2)) (fail)
      have PP := Lib.hid hp2
      have OO := Lib.hid (show OwnT (((((W.alloc (.cells #[.int .i64 a.k, .int .i64 a.i, .slice A2 a.ks.length c2] 24)).setCell ⟨w.heap.size, 0, none⟩ (.bool true)).setCell ⟨w.heap.size, 1, none⟩ (.int .i64 (k : Int))).setCell ⟨w.heap.size, 2, none⟩ (.int .i64 (t.n : Int))).setCell ⟨w.heap.size, 3, none⟩ (.slice (some ⟨W.heap.size, 0, none⟩) 1 1) |>.setCell ⟨w.heap.size, 4, none⟩ (.int .i64 (p2 : Int))).drew (w.heap.size + 1) (W.heap.size + 1) (.node k t.n [a]) (some ⟨W.heap.size, 0, none⟩) 1 from
        own_one (hi := gb) (OwnT.same _ (fun x x1 x2 => set5e_far W _ _ _ _ _ _ (by omega) (by omega)) HO.out) (by rw [drew_far, set5_other _ _ _ _ _ _ _ _ (by omega)]; exact World.alloc_heap_new W _) (by omega))
      have BF := Lib.hid (show ∀ o x y z u v, Below w.heap.size w (((((W.alloc o).setCell ⟨w.heap.size, 0, none⟩ x).setCell ⟨w.heap.size, 1, none⟩ y).setCell ⟨w.heap.size, 2, none⟩ z).setCell ⟨w.heap.size, 3, none⟩ u |>.setCell ⟨w.heap.size, 4, none⟩ v).drew from fun o x y z u v => (below_set5 (BW.out.alloc BW.out.size o) (Nat.le_refl _) x y z u v).drew)
      go_wp2_with fail
      refine bodyPost_ret (v := gotV (.node k t.n [a]) (some ⟨W.heap.size, 0, none⟩) 1 p2) (by simp [results, Tryd.results65, go_sem, gotV, Tr.k, Tr.i, Tr.ks, y0, y1, y2, y3, y4]) rfl ?_
      rw [P.out]
      exact ⟨BF.out _ _ _ _ _ _, _, 1, p2, PP.out, rfl, (OO.out.lower (Nat.le_succ _)).widen (by simp)⟩
  · have P := Lib.hid (show quantP (formP f) k rest = .bad rest by
      cases rest with
      | nil => rfl
      | cons t r => simp only [quantP]; rw [if_neg (show ¬ t.k = 1 from h1)])
    have e1 : ((kindN rest : Int) != 1) = true := by rw [bne_iff_ne]; omega
    go_enter Tryd.func65, Tryd.ntmps65
    go_wp2_with fail
    refine (rkindAt_any _ H0.out HP.out hl).mono ?_
    rintro e w1 ⟨rfl, hb1⟩
    have B1 := Lib.hid (E0.out.keep hb1 (by simp))
    have BB1 := Lib.hid (HB0.out.trans (hb1.mono HB0.out.size))
    clear hb1
    go_wp2_with fail
    refine (rno_any p _).mono ?_
    rintro e w3 ⟨rfl, hb3⟩
    have b5 := B1.out.keep hb3 B1.out.lt
    obtain ⟨y0, y1, y2, y3, y4⟩ := b5.cells
    have f0 := b5.frozen 0
    have f1 := b5.frozen 1
    have f2 := b5.frozen 2
    have f3 := b5.frozen 3
    have f4 := b5.frozen 4
    have BW := Lib.hid (BB1.out.trans (hb3.mono BB1.out.size))
    clear b5 hb3
    go_wp2_with fail
    refine bodyPost_ret (v := noV p) (by simp [results, Tryd.results65, go_sem, noV, y0, y1, y2, y3, y4]) rfl ?_
    rw [P.out]
    exact ⟨below_set5 BW.out (Nat.le_refl _) _ _ _ _ _, p, HP.out, rfl⟩
end
end Go.Proofs.YtgnfbhemkombaaaDoor
