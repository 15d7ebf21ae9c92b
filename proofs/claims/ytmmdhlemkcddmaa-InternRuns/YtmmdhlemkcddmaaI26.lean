/- The document's New, Put of layer 6. -/
import Derived.Test.YtmmdhlemkcddmaaI25
import Derived.Maps.AppendAt
import Derived.Laws.AppendOwnNone
import Derived.Deep.RegionHeld3
import Derived.Deep.DeepCutAuto
namespace Go.Proofs.Ytmmdhlemkcddmaa
open Go.RowKit
set_option linter.unusedVariables false
set_option linter.unusedSimpArgs false
/-- a box of a table of the document's -/
def BoxT (W : World) (b : Nat) (x y : Value) : Prop := W.heap[b]? = some (.cells #[x, y] 38 (0, 0))
theorem BoxT.lt {W : World} {b : Nat} {x y : Value} (h : BoxT W b x y) : b < W.heap.size := (Array.getElem?_eq_some_iff.1 h).1
theorem BoxT.cells {W : World} {b : Nat} {x y : Value} (h : BoxT W b x y) : W.cell? ⟨b, 0, none⟩ = some x ∧ W.cell? ⟨b, 1, none⟩ = some y := by
  unfold BoxT at h
  simp [World.cell?, h]
theorem BoxT.froz {W : World} {b : Nat} {x y : Value} (h : BoxT W b x y) (o : Nat) : W.frozen? ⟨b, o, none⟩ = false := by
  unfold BoxT at h
  simp [World.frozen?, h]
theorem BoxT.keep {W W' : World} {b B : Nat} {x y : Value} (h : BoxT W b x y) (hb : Below B W W') (hB : b < B) : BoxT W' b x y := (hb.block b hB).trans h
theorem BoxT.set {W : World} {b : Nat} {x y : Value} (h : BoxT W b x y) (x' y' : Value) : BoxT ((W.setCell ⟨b, 0, none⟩ x').setCell ⟨b, 1, none⟩ y') b x' y' := by
  unfold BoxT at *
  unfold World.setCell
  simp [Array.getElem?_modify, h]
theorem BoxT.new (W : World) (x y : Value) : BoxT (W.alloc (.cells #[x, y] 38)) W.heap.size x y := heap_alloc_last W _
theorem set2_far (W : World) (b : Nat) (x y : Value) {k : Nat} (h : k ≠ b) : ((W.setCell ⟨b, 0, none⟩ x).setCell ⟨b, 1, none⟩ y).heap[k]? = W.heap[k]? := by
  rw [heap_setCell_other _ _ _ _ h, heap_setCell_other _ _ _ _ h]
theorem below_set2 {B : Nat} {w w' : World} {b : Nat} (h : Below B w w') (x y : Value) (hb : B ≤ b) : Below B w ((w'.setCell ⟨b, 0, none⟩ x).setCell ⟨b, 1, none⟩ y) :=
  (h.setCell (p := ⟨b, 0, none⟩) hb _).setCell (p := ⟨b, 1, none⟩) hb _
/-- a lower base -/
theorem RL.lower {W : World} {base lo : Nat} {S : Nat → Prop} {L : List Tr} {A : Option Addr} {c : Nat} {cs : List (Option Addr × Nat)} (h : RL W base S L A c cs) (hl : lo ≤ base) : RL W lo S L A c cs := by
  refine ⟨h.len, ?_, h.tree⟩
  obtain ⟨h1, h2⟩ := h.own
  refine ⟨h1, h2.imp id ?_⟩
  rintro ⟨g, cap, cur, e, hb, h3⟩
  exact ⟨g, cap, cur, e, by omega, h3⟩
/-- the cells of the row, read -/
theorem RL.row {W : World} {base : Nat} {S : Nat → Prop} {L : List Tr} {A : Option Addr} {c : Nat} {cs : List (Option Addr × Nat)} (h : RL W base S L A c cs) : (A = none ∧ L = [] ∧ c = 0) ∨ ∃ g, A = some ⟨g, 0, none⟩ ∧ g < W.heap.size ∧ ∀ j u, (rowC L cs)[j]? = some u → W.cell? ((⟨g, 0, none⟩ : Addr).add j) = some u := by
  have own := h.own
  rcases h.own.2 with ⟨e, h0⟩ | ⟨g, cap, cur, e, hb, hc, hcap, h4⟩
  · left
    have h1 : L.length = 0 := by omega
    simp only [Value.slice.injEq] at e
    exact ⟨e.1, List.length_eq_zero_iff.1 h1, e.2.2⟩
  · right
    cases e
    refine ⟨g, rfl, (Array.getElem?_eq_some_iff.1 hc).1, fun j u hu => ?_⟩
    have e2 : (⟨g, 0, none⟩ : Addr).add j = ⟨g, j, none⟩ := by unfold Addr.add; split <;> simp_all
    have hj : j < L.length * 3 := by
      have := (List.getElem?_eq_some_iff.1 hu).1
      rw [rowC_len _ _ h.len] at this
      exact this
    rw [e2, own.cellAt j hj]
    exact hu
/-- the list, its row copied into new memory -/
theorem RL.copied {w w3 : World} {lo base : Nat} {S : Nat → Prop} {L : List Tr} {A A3 : Option Addr} {c c3 : Nat} {cs : List (Option Addr × Nat)} (h : RL w lo S L A c cs) (hz : w.heap.size ≤ base) (hb : Below base w w3) (ho : w3.ownsRow base 24 3 (.slice A3 L.length c3) L.length (rowC L cs)) : RL w3 base S L A3 c3 cs := by
  refine ⟨h.len, ho, fun m hm => ?_⟩
  obtain ⟨a, b, ht, hbz, h1, h2⟩ := h.tree m hm
  refine ⟨a, b, OwnT.same _ (fun k k1 k2 => hb.block k (by omega)) ht, by have := hb.size; omega, h1, fun k e => .inr ?_⟩
  have := (ho.lt k (ownB.trans e)).1
  omega
theorem own_form {W : World} {base n : Nat} {v : Value} {xs : List Value} (h : W.ownsRow base 24 3 v n xs) : ∃ A c, v = .slice A n c := by
  rcases h.2 with ⟨e, h0⟩ | ⟨g, cap, cur, e, _⟩
  · subst h0; exact ⟨none, 0, e⟩
  · exact ⟨_, _, e⟩
/-- the boxes of Put -/
structure PS (w W : World) (x y : Value) (t : Tr) (At : Option Addr) (ct : Nat) (u v : Value) : Prop where
  b2 : BoxT W w.heap.size x y
  b3 : Box3 W (w.heap.size + 1) (.int .i64 t.k) (.int .i64 t.i) (.slice At t.ks.length ct)
  b4 : BoxT W (w.heap.size + 2) u v
  bel : Below w.heap.size w W
  size : w.heap.size + 3 ≤ W.heap.size
theorem PS.keepB {w W W' : World} {x y : Value} {t : Tr} {At : Option Addr} {ct : Nat} {u v : Value} {B : Nat} (h : PS w W x y t At ct u v) (hb : Below B W W') (hB : w.heap.size + 3 ≤ B) : PS w W' x y t At ct u v :=
  ⟨h.b2.keep hb (by omega), h.b3.keep hb (by omega), h.b4.keep hb (by omega), h.bel.trans (hb.mono (by omega)), Nat.le_trans h.size hb.size⟩
theorem PS.keep {w W W' : World} {x y : Value} {t : Tr} {At : Option Addr} {ct : Nat} {u v : Value} (h : PS w W x y t At ct u v) (hb : Below W.heap.size W W') : PS w W' x y t At ct u v := h.keepB hb h.size
theorem PS.set {w W : World} {x y : Value} {t : Tr} {At : Option Addr} {ct : Nat} {u v : Value} (h : PS w W x y t At ct u v) (u' v' : Value) : PS w ((W.setCell ⟨w.heap.size + 2, 0, none⟩ u').setCell ⟨w.heap.size + 2, 1, none⟩ v') x y t At ct u' v' :=
  ⟨(set2_far W _ u' v' (by omega)).trans h.b2, (set2_far W _ u' v' (by omega)).trans h.b3, h.b4.set u' v', below_set2 h.bel _ _ (by omega), by have := h.size; simpa using this⟩
theorem PS.cells {w W : World} {x y : Value} {t : Tr} {At : Option Addr} {ct : Nat} {u v : Value} (h : PS w W x y t At ct u v) : (W.cell? ⟨w.heap.size, 0, none⟩ = some x ∧ W.cell? ⟨w.heap.size, 1, none⟩ = some y) ∧ (W.cell? ⟨w.heap.size + 1, 0, none⟩ = some (.int .i64 t.k) ∧ W.cell? ⟨w.heap.size + 1, 1, none⟩ = some (.int .i64 t.i) ∧ W.cell? ⟨w.heap.size + 1, 2, none⟩ = some (.slice At t.ks.length ct)) := ⟨h.b2.cells, h.b3.cells⟩
theorem PS.start (w : World) (x y : Value) (t : Tr) (At : Option Addr) (ct : Nat) : PS w (((w.alloc (.cells #[x, y] 38)).alloc (.cells #[.int .i64 t.k, .int .i64 t.i, .slice At t.ks.length ct] 24)).alloc (.cells #[.int .i64 0, .slice none 0 0] 38)) x y t At ct (.int .i64 0) (.slice none 0 0) := by
  have e3 := Box3.new (w.alloc (.cells #[x, y] 38)) (.int .i64 t.k) (.int .i64 t.i) (.slice At t.ks.length ct)
  have e4 := BoxT.new ((w.alloc (.cells #[x, y] 38)).alloc (.cells #[.int .i64 t.k, .int .i64 t.i, .slice At t.ks.length ct] 24)) (.int .i64 0) (.slice none 0 0)
  rw [World.size_alloc] at e3
  rw [World.size_alloc, World.size_alloc] at e4
  refine ⟨((BoxT.new w x y).keep (below_al _ _) (by simp)).keep (below_al _ _) (by simp; omega), e3.keep (below_al _ _) (by simp), e4, ?_, by simp⟩
  exact ((below_al w _).trans ((below_al _ _).mono (by simp))).trans ((below_al _ _).mono (by simp; omega))
theorem PS.drew {w W : World} {x y : Value} {t : Tr} {At : Option Addr} {ct : Nat} {u v : Value} (h : PS w W x y t At ct u v) : PS w W.drew x y t At ct u v := h.keep (Below.refl _ _).drew
set_option maxHeartbeats 4000000 in
set_option maxRecDepth 100000 in
theorem rPut_bad {w : World} (room : Nat) (n c : Nat) (A : Option Addr) (t : Tr) (At : Option Addr) (ct : Nat) (ht : IsT w w.heap.size t At ct) (hr : rightN t ≠ 0) :
    Calls Try.prog 21 #[.agg #[.int .i64 (room : Int), .slice A n c], .agg #[.int .i64 t.k, .int .i64 t.i, .slice At t.ks.length ct]] w fun e w' => e = .returned (.tuple #[.agg #[.int .i64 (room : Int), .slice A n c], .int .i64 0, .int .i64 (rightN t : Int)]) ∧ Below w.heap.size w w' := by
  have P0 := Lib.hid (PS.start w (.int .i64 (room : Int)) (.slice A n c) t At ct)
  have TT := Lib.hid (fun W (hW : Below w.heap.size w W) => IsT.keep hW hW.size t ht)
  have h0 : ((rightN t : Int) != 0) = true := by rw [bne_iff_ne]; omega
  obtain ⟨y0, y1, y2⟩ := P0.out.b3.cells
  clear ht hr
  go_enter Try.func21, Try.ntmps21
  go_wp2_with fail
  refine (rright_any t At ct _ (by exact TT.out _ P0.out.bel)).mono ?_
  rintro e w1 ⟨rfl, hb1⟩
  have P1 := Lib.hid (P0.out.keep hb1)
  clear hb1 y0 y1 y2 P0
  go_wp2_with fail
  have P2 := Lib.hid P1.out.drew
  have f0 : w1.drew.frozen? ⟨w.heap.size + 2, 0, none⟩ = false := P2.out.b4.froz 0
  have f1 : w1.drew.frozen? ⟨w.heap.size + 2, 1, none⟩ = false := P2.out.b4.froz 1
  obtain ⟨q0, q1⟩ := P2.out.b4.cells
  go_region_held3 (fun w' => (w'.cell? ⟨w.heap.size, 0, none⟩ = some (.int .i64 (room : Int)) ∧ w'.cell? ⟨w.heap.size, 1, none⟩ = some (.slice A n c)) ∧ (w'.cell? ⟨w.heap.size + 1, 0, none⟩ = some (.int .i64 t.k) ∧ w'.cell? ⟨w.heap.size + 1, 1, none⟩ = some (.int .i64 t.i) ∧ w'.cell? ⟨w.heap.size + 1, 2, none⟩ = some (.slice At t.ks.length ct)))
    (first | exact P2.out.cells | exact (P2.out.set _ _).cells | exact P5.out.cells | exact (P5.out.set _ _).cells)
    (first
      | (go_at_call 30; refine (rright_any t At ct _ (TT.out _ (by first | exact P2.out.bel | exact (P2.out.set _ _).bel))).mono ?_; rintro e w5 ⟨rfl, hb5⟩; (first | have P5 := Lib.hid (P2.out.keep hb5) | have P5 := Lib.hid ((P2.out.set _ _).keep hb5)); have f2 := P5.out.b4.froz 0; have f3 := P5.out.b4.froz 1; obtain ⟨q2, q3⟩ := P5.out.b4.cells; clear hb5))
  all_goals go_wp2_with fail
  obtain ⟨r0, r1⟩ := (P5.out.set (.int .i64 (room : Int)) (.slice A n c)).b4.cells
  exact bodyPost_ret (v := .tuple #[.agg #[.int .i64 (room : Int), .slice A n c], .int .i64 0, .int .i64 (rightN t : Int)]) (by simp [results, Try.results21, go_sem, r0, r1]) rfl ⟨rfl, (P5.out.set _ _).bel⟩
/-- what Put answers for what is right -/
def RPutP (w : World) (lo : Nat) (S : Nat → Prop) (room : Nat) (L : List Tr) (A : Option Addr) (c : Nat) (t : Tr) (e : Ending) (w' : World) : Prop :=
  Below w.heap.size w w' ∧ ((¬ (dputT t L).length ≤ room ∧ e = .returned (.tuple #[.agg #[.int .i64 (room : Int), .slice A L.length c], .int .i64 0, .int .i64 60])) ∨
    ((dputT t L).length ≤ room ∧ ∃ A' c' cs', e = .returned (.tuple #[.agg #[.int .i64 (room : Int), .slice A' (dputT t L).length c'], .int .i64 (num (dputT t L) t : Int), .int .i64 0]) ∧ RL w' lo S (dputT t L) A' c' cs'))
set_option maxHeartbeats 8000000 in
set_option maxRecDepth 100000 in
theorem rPut_ok {w : World} {lo room : Nat} {S : Nat → Prop} {L : List Tr} {A : Option Addr} {c : Nat} {cs : List (Option Addr × Nat)} (h : RL w lo S L A c cs) (hlo : lo ≤ w.heap.size) (hS : ∀ k, S k → k < w.heap.size) (ho : Ok L) (hle : L.length ≤ 20000) (t : Tr) (At : Option Addr) (ct : Nat) (ht : IsT w w.heap.size t At ct) (hr : rightN t = 0) :
    Calls Try.prog 21 #[.agg #[.int .i64 (room : Int), .slice A L.length c], .agg #[.int .i64 t.k, .int .i64 t.i, .slice At t.ks.length ct]] w (RPutP w lo S room L A c t) := by
  have P0 := Lib.hid (PS.start w (.int .i64 (room : Int)) (.slice A L.length c) t At ct)
  have TT := Lib.hid (fun W (hW : Below w.heap.size w W) => IsT.keep hW hW.size t ht)
  have HT := Lib.hid ht
  have HL := Lib.hid h
  have HR := Lib.hid hr
  have HO := Lib.hid ho
  have HSS := Lib.hid hS
  have tsz := (right_shp' hr).2.1
  have h0 : ((rightN t : Int) != 0) = false := by simp [hr]
  obtain ⟨i0, hi, hz0, hz1, hz2⟩ := info_parts infoE
  have HI := Lib.hid (And.intro hi (And.intro hz0 (And.intro hz1 hz2)))
  obtain ⟨y0, y1, y2⟩ := P0.out.b3.cells
  clear ht hr h ho hS hi hz0 hz1 hz2
  go_enter Try.func21, Try.ntmps21
  go_wp2_with fail
  refine (rright_any t At ct _ (by exact TT.out _ P0.out.bel)).mono ?_
  rintro e w1 ⟨rfl, hb1⟩
  have P1 := Lib.hid (P0.out.keep hb1)
  clear hb1 y0 y1 y2 P0
  obtain ⟨y0, y1⟩ := P1.out.b2.cells
  have OE := Lib.hid (show (w1.alloc (.cells #[] 24)).ownsRow w1.heap.size 24 3 (.slice (some ⟨w1.heap.size, 0, none⟩) 0 0) 0 [] from ⟨rfl, .inr ⟨w1.heap.size, 0, #[], rfl, Nat.le_refl _, heap_alloc_last w1 _, Nat.le_refl _, by unfold maxLen; omega, rfl, rfl⟩⟩)
  have LA := Lib.hid (HL.out.keep (P1.out.bel.trans ((below_al w1 (.cells #[] 24)).mono P1.out.bel.size)))
  have hz1 := P1.out.size
  have RW := Lib.hid LA.out.row
  have RLN := Lib.hid (show (rowC L cs).length = L.length * 3 from rowC_len _ _ HL.out.len)
  go_upto_region 3 with fail
  go_cut [7] (fun v wc => ∃ A3 c3, v = .slice A3 L.length c3 ∧ RL wc w1.heap.size (fun k => S k ∨ k = w.heap.size + 2) L A3 c3 cs ∧ Below w1.heap.size w1 wc)
  case first =>
    have y1' : (w1.alloc (.cells #[] 24)).cell? ⟨w.heap.size, 1, none⟩ = some (.slice A L.length c) := ((below_al w1 _).cell (p := ⟨w.heap.size, 1, none⟩) (by show w.heap.size < w1.heap.size; omega)).trans y1
    have R1 := Lib.hid ((HL.out.newS (S' := fun k => S k ∨ k = w.heap.size + 2) (fun k hk => hk.elim .inl (fun e => .inr (by omega)))).keep P1.out.bel)
    rcases RW.out with ⟨rfl, hL0, rfl⟩ | ⟨g, rfl, hg, hnews⟩
    · subst hL0
      go_wp2_with (at_builtin; refine wpList_append_own_none (by rfl) _ _ _ (by rfl) w1.heap.size 24 i0 3 Try.underlying22 HI.out.1 (.slice (some ⟨w1.heap.size, 0, none⟩) 0 0) 0 [] (by rfl) (by exact OE.out) (by rfl) ?_)
      go_meet
      refine ⟨_, _, rfl, ?_, below_al w1 _⟩
      exact R1.out.copied (Nat.le_refl _) (below_al w1 _) OE.out
    · have NW := Lib.hid hnews
      clear hnews
      go_wp2_with (at_builtin; refine wpList_append_own_at _ (by rfl) _ _ _ (by rfl) w1.heap.size 24 i0 _ 3 40 Try.underlying22 HI.out.1 HI.out.2.1 HI.out.2.2.1 HI.out.2.2.2 (by rfl) (by omega) (.slice (some ⟨w1.heap.size, 0, none⟩) 0 0) 0 [] (by rfl) (by exact OE.out) ⟨g, 0, none⟩ L.length c (rowC L cs) (by rfl) (by exact RLN.out) (by exact NW.out) (by exact rowC_one _ _) (by unfold maxLen; omega) (by omega) (by simp) ?_; intro v3 w3 hown3 hgrow3 hnil3 hat3; have HO3 := Lib.hid hown3; have HG3 := Lib.hid hgrow3; clear hown3 hgrow3 hnil3 hat3)
      go_meet
      have o3 : w3.ownsRow w1.heap.size 24 3 v3 L.length (rowC L cs) := by simpa using HO3.out
      obtain ⟨A3, c3, rfl⟩ := own_form o3
      have hgz := HG3.out.size
      have b3 : Below w1.heap.size w1 w3 := (below_al w1 _).trans ⟨HG3.out.os, HG3.out.tape, HG3.out.output, hgz, fun k hk => HG3.out.block k (by simp; omega) (fun e => by simp [Value.ownBlock] at e; omega)⟩
      exact ⟨A3, c3, rfl, R1.out.copied (Nat.le_refl _) b3 o3, b3⟩
  case rest =>
    obtain ⟨A3, c3, rfl, hR3, hb3⟩ := hcut
    have R3 := Lib.hid hR3
    have P3 := Lib.hid (P1.out.keep hb3)
    have hz3 := hb3.size
    clear hR3 hb3 LA RW OE y0 y1
    obtain ⟨y0, y1, y2⟩ := P3.out.b3.cells
    have SZ := Lib.hid (dput_len t L)
    go_wp2_with fail
    refine (rput_any w1.heap.size (fun k => S k ∨ k = w.heap.size + 2) (fun k hk => by rcases hk with hk | rfl; have := HSS.out k hk; omega; omega) wc t.sz t At ct L A3 c3 cs _ (Nat.le_refl _) HR.out HO.out (by omega) (IsT.keep P3.out.bel (by omega) t HT.out) (Below.refl _ _) hz3 (by exact R3.out)).mono ?_
    rintro e w4 ⟨A4, c4, cs4, rfl, hP4⟩
    have R4 := Lib.hid hP4.rl
    have B4 := Lib.hid (hP4.bel (fun k e => (R3.out.blk e).1) hz3)
    have P4 := Lib.hid (P3.out.keepB B4.out (by omega))
    have hz4 := hP4.kp.size
    clear hP4 y0 y1 y2
    have OK := Lib.hid (dput_right HO.out HR.out)
    obtain ⟨D, hD⟩ : ∃ D, D = dputT t L := ⟨_, rfl⟩
    have HD := Lib.hid hD
    rw [← hD] at R4 OK SZ ⊢
    clear hD
    obtain ⟨y0, y1⟩ := P4.out.b2.cells
    have hDl : D.length ≤ 21000 := by have := SZ.out; omega
    by_cases hf : D.length ≤ room
    · have g0 : ¬ (room : Int) < (D.length : Int) := by omega
      have IT := Lib.hid (R4.out.isT OK.out (by omega))
      go_wp2_with fail
      have P5 := Lib.hid P4.out.drew
      have f0 : w4.drew.frozen? ⟨w.heap.size + 2, 0, none⟩ = false := P5.out.b4.froz 0
      have f1 : w4.drew.frozen? ⟨w.heap.size + 2, 1, none⟩ = false := P5.out.b4.froz 1
      obtain ⟨q0, q1⟩ := P5.out.b4.cells
      have B5 : Below w4.heap.size w4 w4.drew := (Below.refl _ _).drew
      have IT5 := Lib.hid (IsT.keep B5 (Nat.le_refl _) (.node 0 0 D) IT.out)
      have TT5 := Lib.hid (IsT.keep P5.out.bel P5.out.bel.size t HT.out)
      have BX := Lib.hid B5
      clear B5
      go_region_held3 (fun w' => (w'.cell? ⟨w.heap.size, 0, none⟩ = some (.int .i64 (room : Int)) ∧ w'.cell? ⟨w.heap.size, 1, none⟩ = some (.slice A L.length c)) ∧ (w'.cell? ⟨w.heap.size + 1, 0, none⟩ = some (.int .i64 t.k) ∧ w'.cell? ⟨w.heap.size + 1, 1, none⟩ = some (.int .i64 t.i) ∧ w'.cell? ⟨w.heap.size + 1, 2, none⟩ = some (.slice At t.ks.length ct)))
        (first | exact P5.out.cells | exact (P5.out.set _ _).cells | exact P6.out.cells | exact (P6.out.set _ _).cells)
        (first
          | (go_at_call 51; refine (rfind6_any D 0 0 A4 c4 t At ct _ (by exact IT5.out) (by exact TT5.out)).mono ?_; rintro e w5 ⟨rfl, hb5⟩; have P6 := Lib.hid (P5.out.keep hb5); have B6 := Lib.hid (BX.out.trans (hb5.mono (Nat.le_refl _))); have f2 := P6.out.b4.froz 0; have f3 := P6.out.b4.froz 1; obtain ⟨q2, q3⟩ := P6.out.b4.cells; clear hb5))
      all_goals go_wp2_with fail
      obtain ⟨r0, r1⟩ := (P6.out.set (.int .i64 (room : Int)) (.slice A4 D.length c4)).b4.cells
      refine bodyPost_ret (v := .tuple #[.agg #[.int .i64 (room : Int), .slice A4 D.length c4], .int .i64 (num D t : Int), .int .i64 0]) (by simp [results, Try.results21, go_sem, r0, r1]) rfl ⟨(P6.out.set _ _).bel, .inr ⟨by rw [← HD.out]; exact hf, A4, c4, cs4, by rw [← HD.out], ?_⟩⟩
      rw [← HD.out]
      have R6 := R4.out.keep B6.out
      have R7 := R6.move (W' := (w5.setCell ⟨w.heap.size + 2, 0, none⟩ (.int .i64 (room : Int))).setCell ⟨w.heap.size + 2, 1, none⟩ (.slice A4 D.length c4)) (fun k hk hn => set2_far w5 _ _ _ (fun e => hn (.inr e))) (by simp) (fun k e hk => by
        have h1 := (R6.blk e).1
        rcases hk with hk | hk
        · have := HSS.out k hk; omega
        · omega)
      exact (R7.newS (S' := S) fun k hk => .inl (.inl hk)).lower (by omega)
    · have g0 : (room : Int) < (D.length : Int) := by omega
      have f0 := P4.out.b4.froz 0
      have f1 := P4.out.b4.froz 1
      obtain ⟨q0, q1⟩ := P4.out.b4.cells
      go_wp2_with fail
      obtain ⟨r0, r1⟩ := (P4.out.set (.int .i64 (room : Int)) (.slice A L.length c)).b4.cells
      exact bodyPost_ret (v := .tuple #[.agg #[.int .i64 (room : Int), .slice A L.length c], .int .i64 0, .int .i64 60]) (by simp [results, Try.results21, go_sem, r0, r1]) rfl ⟨(P4.out.set _ _).bel, .inl ⟨by rw [← HD.out]; exact hf, rfl⟩⟩
end Go.Proofs.Ytmmdhlemkcddmaa
