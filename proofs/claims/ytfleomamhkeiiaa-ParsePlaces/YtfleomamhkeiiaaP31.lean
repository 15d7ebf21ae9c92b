/- whole of the document's layer 3. -/
import Derived.Test.YtfleomamhkeiiaaP30
namespace Go.Proofs.Ytfleomamhkeiiaa
open Go.RowKit
set_option linter.unusedVariables false
set_option linter.unusedSimpArgs false
theorem fit_of_shp (t : Tr) : t.shp = true → t.fit := by
  induction t using Tr.ind with
  | h t ih =>
    intro h
    have hk := kind_of_shp t h
    rw [shp_eq, Bool.and_eq_true, shpL_all, List.all_eq_true] at h
    refine (fit_eq t).2 ⟨by unfold Cap; omega, fun q hq => ih q hq ?_⟩
    have := h.2 q hq
    simp at this
    exact this.2
theorem set3e_far (W : World) {b : Nat} (x y z : Value) {k : Nat} (h2 : k ≠ b) : (((W.setCell ⟨b, 0, none⟩ x).setCell ⟨b, 1, none⟩ y).setCell ⟨b, 2, none⟩ z).drew.heap[k]? = W.heap[k]? := (drew_far _ k).trans (set3_other _ _ _ _ _ _ h2)
/-- what is answered of a tree that was read -/
def rightV (t : Tr) (B : Option Addr) (d : Nat) : Array Value := if rightN t = 0 then #[.agg #[.int .i64 t.k, .int .i64 t.i, .slice B t.ks.length d], .int .i64 0, .int .i64 0] else #[.agg #[.int .i64 0, .int .i64 0, .slice none 0 0], .int .i64 (rightN t : Int), .int .i64 0]
theorem rightV_ok {t : Tr} (h : rightN t = 0) (B : Option Addr) (d : Nat) : rightV t B d = #[.agg #[.int .i64 t.k, .int .i64 t.i, .slice B t.ks.length d], .int .i64 0, .int .i64 0] := by unfold rightV; rw [if_pos h]
theorem rightV_bad {t : Tr} (h : ¬ rightN t = 0) (B : Option Addr) (d : Nat) : rightV t B d = #[.agg #[.int .i64 0, .int .i64 0, .slice none 0 0], .int .i64 (rightN t : Int), .int .i64 0] := by unfold rightV; rw [if_neg h]
section
variable {A : Option Addr} {c : Nat} {l : List Tok} {p : Nat}
set_option maxHeartbeats 2000000 in
set_option maxRecDepth 100000 in
theorem rwhole_tok (s : ByteArray) (ok : Bool) (x y : Int) (B : Option Addr) (n d : Nat) (t : Tok) (r : List Tok) (w : World) (h : IsToks w A c l) (hp : Pos l (t :: r) p) (hl : l.length ≤ 8000) :
    Calls Try.prog 41 #[.string s, .slice A l.length c, .agg #[.bool ok, .int .i64 x, .int .i64 y, .slice B n d, .int .i64 (p : Int)]] w fun e w' => e = .returned (.tuple #[.agg #[.int .i64 0, .int .i64 0, .slice none 0 0], .int .i64 32, .int .i64 (t.p : Int)]) ∧ Below w.heap.size w w' := by
  have hpt := hp.lt
  have hpi : (p : Int) < (l.length : Int) := by omega
  have hb0 : Below w.heap.size w ((w.alloc (.cells #[.bool ok, .int .i64 x, .int .i64 y, .slice B n d, .int .i64 (p : Int)] 57)).alloc (.cells #[.int .i64 0, .int .i64 0, .slice none 0 0] 24)) := ((Below.refl _ _).alloc (Nat.le_refl _) _).alloc (by simp) _
  obtain ⟨b, rfl, hlc, hlt0, _, _, _⟩ := h.at hp
  obtain ⟨b', e', _, hlt, _, _, d2⟩ := (h.keep hb0).at hp
  cases e'
  have e3 := Box3.new (w.alloc (.cells #[.bool ok, .int .i64 x, .int .i64 y, .slice B n d, .int .i64 (p : Int)] 57)) (.int .i64 0) (.int .i64 0) (.slice none 0 0)
  rw [World.size_alloc] at e3
  have g5 := (Box5.new w (.bool ok) (.int .i64 x) (.int .i64 y) (.slice B n d) (.int .i64 (p : Int))).keep ((Below.refl (w.heap.size + 1) _).alloc (by simp) (.cells #[.int .i64 0, .int .i64 0, .slice none 0 0] 24)) (by omega)
  have HB := Lib.hid hb0
  clear h hp hb0
  cases ok
  all_goals
    go_enter Try.func41, Try.ntmps41
    go_wp2_with fail
    generalize ((w.alloc (.cells #[.bool _, .int .i64 x, .int .i64 y, .slice B n d, .int .i64 (p : Int)] 57)).alloc (.cells #[.int .i64 0, .int .i64 0, .slice none 0 0] 24)) = W at d2 e3 g5 HB hlt ⊢
    have g4 := g5.cells.2.2.2.2
    obtain ⟨y0, y1, y2⟩ := e3.cells
    have f0 := e3.frozen 0
    have f1 := e3.frozen 1
    have f2 := e3.frozen 2
    have SK := Lib.hid (show ∀ X : World, (∀ k, k ≠ w.heap.size + 1 → X.heap[k]? = W.heap[k]?) → X.cell? ⟨w.heap.size, 4, none⟩ = some (.int .i64 (p : Int)) ∧ X.cell? ⟨b, p * 3 + 2, none⟩ = some (.int .i64 (t.p : Int)) from fun X hX =>
      ⟨(cell_far (hX _ (by omega)) _).trans g4, (cell_far (hX b (by omega)) _).trans d2⟩)
    clear g5 e3 d2 g4
    go_region_held3 (fun w' => w'.cell? ⟨w.heap.size, 4, none⟩ = some (.int .i64 (p : Int)) ∧ w'.cell? ⟨b, p * 3 + 2, none⟩ = some (.int .i64 (t.p : Int)))
      (first | with_reducible exact SK.out _ (fun k h1 => set3e_far W _ _ _ h1) | with_reducible exact SK.out _ (fun k _ => drew_far W k)) (fail)
    go_wp2_with fail
    refine bodyPost_ret (v := .tuple #[.agg #[.int .i64 0, .int .i64 0, .slice none 0 0], .int .i64 32, .int .i64 (t.p : Int)]) (by simp [results, Try.results41, go_sem, y0, y1, y2]) rfl ?_
    exact ⟨rfl, (below_set3 HB.out _ _ _ (Nat.le_succ _)).drew⟩
set_option maxHeartbeats 2000000 in
set_option maxRecDepth 100000 in
theorem rwhole_end (s : ByteArray) (x y : Int) (B : Option Addr) (n d : Nat) (w : World) (hl : l.length ≤ 8000) (hs : s.size ≤ maxLen) :
    Calls Try.prog 41 #[.string s, .slice A l.length c, .agg #[.bool false, .int .i64 x, .int .i64 y, .slice B n d, .int .i64 (l.length : Int)]] w fun e w' => e = .returned (.tuple #[.agg #[.int .i64 0, .int .i64 0, .slice none 0 0], .int .i64 32, .int .i64 (s.size : Int)]) ∧ Below w.heap.size w w' := by
  have hpi : ¬ (l.length : Int) < (l.length : Int) := by omega
  have hb0 : Below w.heap.size w ((w.alloc (.cells #[.bool false, .int .i64 x, .int .i64 y, .slice B n d, .int .i64 (l.length : Int)] 57)).alloc (.cells #[.int .i64 0, .int .i64 0, .slice none 0 0] 24)) := ((Below.refl _ _).alloc (Nat.le_refl _) _).alloc (by simp) _
  have e3 := Box3.new (w.alloc (.cells #[.bool false, .int .i64 x, .int .i64 y, .slice B n d, .int .i64 (l.length : Int)] 57)) (.int .i64 0) (.int .i64 0) (.slice none 0 0)
  rw [World.size_alloc] at e3
  have HB := Lib.hid hb0
  obtain ⟨y0, y1, y2⟩ := e3.cells
  clear hb0 e3
  go_enter Try.func41, Try.ntmps41
  go_wp2_with fail
  refine bodyPost_ret (v := .tuple #[.agg #[.int .i64 0, .int .i64 0, .slice none 0 0], .int .i64 32, .int .i64 (s.size : Int)]) (by simp [results, Try.results41, go_sem, y0, y1, y2]) rfl ?_
  exact ⟨rfl, HB.out⟩
set_option maxHeartbeats 2000000 in
set_option maxRecDepth 100000 in
theorem rwhole_right (s : ByteArray) (t : Tr) (B : Option Addr) (d : Nat) (w : World) (hl : l.length ≤ 8000) (ht : IsT w w.heap.size t B d) :
    Calls Try.prog 41 #[.string s, .slice A l.length c, .agg #[.bool true, .int .i64 t.k, .int .i64 t.i, .slice B t.ks.length d, .int .i64 (l.length : Int)]] w fun e w' => Below w.heap.size w w' ∧ e = .returned (.tuple (rightV t B d)) := by
  have hpi : ¬ (l.length : Int) < (l.length : Int) := by omega
  have hb0 : Below w.heap.size w ((w.alloc (.cells #[.bool true, .int .i64 t.k, .int .i64 t.i, .slice B t.ks.length d, .int .i64 (l.length : Int)] 57)).alloc (.cells #[.int .i64 0, .int .i64 0, .slice none 0 0] 24)) := ((Below.refl _ _).alloc (Nat.le_refl _) _).alloc (by simp) _
  have e3 := Box3.new (w.alloc (.cells #[.bool true, .int .i64 t.k, .int .i64 t.i, .slice B t.ks.length d, .int .i64 (l.length : Int)] 57)) (.int .i64 0) (.int .i64 0) (.slice none 0 0)
  rw [World.size_alloc] at e3
  have g5 := (Box5.new w (.bool true) (.int .i64 t.k) (.int .i64 t.i) (.slice B t.ks.length d) (.int .i64 (l.length : Int))).keep ((Below.refl (w.heap.size + 1) _).alloc (by simp) (.cells #[.int .i64 0, .int .i64 0, .slice none 0 0] 24)) (by omega)
  have HT := Lib.hid (ht.keep hb0 hb0.size)
  have HB := Lib.hid hb0
  have E3 := Lib.hid e3
  have G5 := Lib.hid g5
  have hsz : ((w.alloc (.cells #[.bool true, .int .i64 t.k, .int .i64 t.i, .slice B t.ks.length d, .int .i64 (l.length : Int)] 57)).alloc (.cells #[.int .i64 0, .int .i64 0, .slice none 0 0] 24)).heap.size = w.heap.size + 2 := by simp
  clear hb0 e3 g5 ht
  go_enter Try.func41, Try.ntmps41
  go_wp2_with fail
  generalize ((w.alloc (.cells #[.bool true, .int .i64 t.k, .int .i64 t.i, .slice B t.ks.length d, .int .i64 (l.length : Int)] 57)).alloc (.cells #[.int .i64 0, .int .i64 0, .slice none 0 0] 24)) = W at E3 G5 HB HT hsz ⊢
  refine (rright_any t B d W HT.out).mono ?_
  rintro e w1 ⟨rfl, hb1⟩
  have hz1 := hb1.size
  have HT1 := Lib.hid (HT.out.keep hb1 hb1.size)
  have HB1 := Lib.hid (HB.out.trans (hb1.mono HB.out.size))
  have E1 := Lib.hid (E3.out.keep hb1 (by omega))
  have G1 := Lib.hid (G5.out.keep hb1 (by omega))
  clear hb1 HT HB E3 G5
  by_cases hr : rightN t = 0
  · have h0 : ((rightN t : Int) != 0) = false := by simp [hr]
    have F := Lib.hid (rightV_ok hr B d)
    obtain ⟨g0, g1, g2, g3, g4⟩ := G1.out.cells
    obtain ⟨y0, y1, y2⟩ := E1.out.cells
    have f0 := E1.out.frozen 0
    have f1 := E1.out.frozen 1
    have f2 := E1.out.frozen 2
    clear hr
    go_wp2_with fail
    refine bodyPost_ret (v := .tuple #[.agg #[.int .i64 t.k, .int .i64 t.i, .slice B t.ks.length d], .int .i64 0, .int .i64 0]) (by simp [results, Try.results41, go_sem, y0, y1, y2]) rfl ?_
    refine ⟨below_set3 HB1.out _ _ _ (Nat.le_succ _), ?_⟩
    rw [F.out]
  · have h0 : ((rightN t : Int) != 0) = true := by rw [bne_iff_ne]; omega
    have F := Lib.hid (rightV_bad hr B d)
    obtain ⟨g0, g1, g2, g3, g4⟩ := G1.out.cells
    clear hr
    go_wp2_with fail
    refine (rright_any t B d w1 HT1.out).mono ?_
    rintro e w2 ⟨rfl, hb2⟩
    have HB2 := Lib.hid (HB1.out.trans (hb2.mono HB1.out.size))
    have E2 := Lib.hid (E1.out.keep hb2 E1.out.lt)
    clear hb2
    obtain ⟨y0, y1, y2⟩ := E2.out.cells
    have f0 := E2.out.frozen 0
    have f1 := E2.out.frozen 1
    have f2 := E2.out.frozen 2
    go_wp2_with fail
    refine bodyPost_ret (v := .tuple #[.agg #[.int .i64 0, .int .i64 0, .slice none 0 0], .int .i64 (rightN t : Int), .int .i64 0]) (by simp [results, Try.results41, go_sem, y0, y1, y2]) rfl ?_
    refine ⟨below_set3 HB2.out _ _ _ (Nat.le_succ _), ?_⟩
    rw [F.out]
end
end Go.Proofs.Ytfleomamhkeiiaa
