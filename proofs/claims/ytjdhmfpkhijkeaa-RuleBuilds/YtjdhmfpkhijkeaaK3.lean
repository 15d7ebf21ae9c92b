/- abbreviationOf and unfolded of package rule. -/
import Derived.Test.YtjdhmfpkhijkeaaK1
import Derived.Test.YtjdhmfpkhijkeaaK2
import Derived.Test.YtjdhmfpkhijkeaaH1
import Derived.Test.YtjdhmfpkhijkeaaE17
import Derived.Deep.RegionHeld3
import Derived.Deep.DeepCutAuto
namespace Go.Proofs.Ytjdhmfpkhijkeaa
open Go.RowKit
set_option linter.unusedVariables false
set_option linter.unusedSimpArgs false
theorem row_tree1 {X : Nat → Prop} {w w' : World} {a : Tr} {A : Option Addr} {c : Nat} {k i : Int} {e : Ending} (h : RowX w k i [.int .i64 a.k, .int .i64 a.i, .slice A a.ks.length c] 1 e w') (hX : ∀ k, X k → k < w.heap.size) (ha : FrT X w a A c) : TreeX X w (.node k i [a]) e w' := by
  obtain ⟨g, rfl, h1, h2, h3, hb⟩ := h
  exact ⟨_, _, rfl, FrT.one k i (ha.keep hb) h3 (fun h => by have := hX _ h; omega), hb⟩
theorem row_tree2 {X : Nat → Prop} {w w' : World} {a b : Tr} {A B : Option Addr} {c d : Nat} {k i : Int} {e : Ending} (h : RowX w k i [.int .i64 a.k, .int .i64 a.i, .slice A a.ks.length c, .int .i64 b.k, .int .i64 b.i, .slice B b.ks.length d] 2 e w') (hX : ∀ k, X k → k < w.heap.size) (ha : FrT X w a A c) (hb : FrT X w b B d) : TreeX X w (.node k i [a, b]) e w' := by
  obtain ⟨g, rfl, h1, h2, h3, h4⟩ := h
  exact ⟨_, _, rfl, FrT.two k i (ha.keep h4) (hb.keep h4) h3 (fun h => by have := hX _ h; omega), h4⟩
theorem IsT.drewz {w : World} {t : Tr} {A : Option Addr} {c : Nat} (h : IsT w w.heap.size t A c) : IsT w.drew w.drew.heap.size t A c := h.keep (Below.refl _ _).drew (Nat.le_refl _)
/-- three cells of a tree in a row -/
def Cel (W : World) (g o : Nat) (t : Tr) (A : Option Addr) (c : Nat) : Prop := W.cell? ⟨g, o, none⟩ = some (.int .i64 t.k) ∧ W.cell? ⟨g, o + 1, none⟩ = some (.int .i64 t.i) ∧ W.cell? ⟨g, o + 2, none⟩ = some (.slice A t.ks.length c)
theorem Cel.keep {W W' : World} {g o : Nat} {t : Tr} {A : Option Addr} {c : Nat} {B : Nat} (h : Cel W g o t A c) (hb : Below B W W') (hB : g < B) : Cel W' g o t A c := ⟨(hb.cell (p := ⟨g, o, none⟩) hB).trans h.1, (hb.cell (p := ⟨g, o + 1, none⟩) hB).trans h.2.1, (hb.cell (p := ⟨g, o + 2, none⟩) hB).trans h.2.2⟩
theorem kidsA2 {w : World} {B : Nat} {k i : Int} {a b : Tr} {A : Option Addr} {c : Nat} (h : IsT w B (.node k i [a, b]) A c) : ∃ g o Aa ca Ab cb, A = some ⟨g, o, none⟩ ∧ g < B ∧ Cel w g o a Aa ca ∧ Cel w g (o + 3) b Ab cb ∧ IsT w B a Aa ca ∧ IsT w B b Ab cb ∧ 2 ≤ c := by
  obtain ⟨g, o, Aa, ca, hA, hg, a0, a1, a2, ta⟩ := h.kid 0 (by simp [Tr.ks])
  obtain ⟨g', o', Ab, cb, hA', hg', b0, b1, b2, tb⟩ := h.kid 1 (by simp [Tr.ks])
  rw [hA] at hA'
  cases hA'
  replace a0 : w.cell? ⟨g, o + 0 * 3, none⟩ = some (.int .i64 a.k) := a0
  replace a1 : w.cell? ⟨g, o + 0 * 3 + 1, none⟩ = some (.int .i64 a.i) := a1
  replace a2 : w.cell? ⟨g, o + 0 * 3 + 2, none⟩ = some (.slice Aa a.ks.length ca) := a2
  replace b0 : w.cell? ⟨g, o + 1 * 3, none⟩ = some (.int .i64 b.k) := b0
  replace b1 : w.cell? ⟨g, o + 1 * 3 + 1, none⟩ = some (.int .i64 b.i) := b1
  replace b2 : w.cell? ⟨g, o + 1 * 3 + 2, none⟩ = some (.slice Ab b.ks.length cb) := b2
  exact ⟨g, o, Aa, ca, Ab, cb, hA, hg, ⟨by simpa using a0, by simpa using a1, by simpa using a2⟩, ⟨by simpa using b0, by simpa using b1, by simpa using b2⟩, ta, tb, h.len.1⟩
theorem kidsA1 {w : World} {B : Nat} {k i : Int} {a : Tr} {A : Option Addr} {c : Nat} (h : IsT w B (.node k i [a]) A c) : ∃ g o Aa ca, A = some ⟨g, o, none⟩ ∧ g < B ∧ Cel w g o a Aa ca ∧ IsT w B a Aa ca ∧ 1 ≤ c := by
  obtain ⟨g, o, Aa, ca, hA, hg, a0, a1, a2, ta⟩ := h.kid 0 (by simp [Tr.ks])
  replace a0 : w.cell? ⟨g, o + 0 * 3, none⟩ = some (.int .i64 a.k) := a0
  replace a1 : w.cell? ⟨g, o + 0 * 3 + 1, none⟩ = some (.int .i64 a.i) := a1
  replace a2 : w.cell? ⟨g, o + 0 * 3 + 2, none⟩ = some (.slice Aa a.ks.length ca) := a2
  exact ⟨g, o, Aa, ca, hA, hg, ⟨by simpa using a0, by simpa using a1, by simpa using a2⟩, ta, h.len.1⟩
/-! ### abbreviationOf -/
set_option maxHeartbeats 4000000 in
theorem abbr_and (i : Int) (a b : Tr) (A : Option Addr) (c B : Nat) (w : World) (hB : B ≤ w.heap.size) (ht : IsT w B (.node 8 i [a, b]) A c) :
    Calls Try.prog 134 #[.agg #[.int .i64 8, .int .i64 i, .slice A 2 c]] w fun e w' => ∃ Aa ca Ab cb, e = .returned (.iface 131 (.agg #[.int .i64 a.k, .int .i64 a.i, .slice Aa a.ks.length ca, .int .i64 b.k, .int .i64 b.i, .slice Ab b.ks.length cb])) ∧ IsT w B a Aa ca ∧ IsT w B b Ab cb ∧ Below w.heap.size w w' := by
  obtain ⟨g, o, Aa, ca, Ab, cb, rfl, hg, ha, hb, ta, tb, hc⟩ := kidsA2 ht
  have B0 := Lib.hid (show Below w.heap.size w (w.alloc (.cells #[.int .i64 8, .int .i64 i, .slice (some ⟨g, o, none⟩) 2 c] 24)) from (Below.refl _ _).alloc (Nat.le_refl _) _)
  have X0 := Lib.hid (Box3.new w (.int .i64 8) (.int .i64 i) (.slice (some ⟨g, o, none⟩) 2 c))
  have HA := Lib.hid (ha.keep B0.out (by omega))
  have HB := Lib.hid (hb.keep B0.out (by omega))
  have TA := Lib.hid ta
  have TB := Lib.hid tb
  clear ht ha hb ta tb
  go_enter Try.func134, Try.ntmps134
  go_wp2_with fail
  go_region_held3 (fun w' => w'.cell? ⟨w.heap.size, 2, none⟩ = some (.slice (some ⟨g, o, none⟩) 2 c) ∧ (w'.cell? ⟨g, o, none⟩ = some (.int .i64 a.k) ∧ w'.cell? ⟨g, o + 1, none⟩ = some (.int .i64 a.i) ∧ w'.cell? ⟨g, o + 2, none⟩ = some (.slice Aa a.ks.length ca)) ∧ (w'.cell? ⟨g, o + 3, none⟩ = some (.int .i64 b.k) ∧ w'.cell? ⟨g, o + 3 + 1, none⟩ = some (.int .i64 b.i) ∧ w'.cell? ⟨g, o + 3 + 2, none⟩ = some (.slice Ab b.ks.length cb)))
    (exact ⟨X0.out.cells.2.2, HA.out, HB.out⟩)
    (fail)
  all_goals
    go_wp2_with fail
    go_ret
    exact ⟨Aa, ca, Ab, cb, rfl, TA.out, TB.out, B0.out.drew⟩
set_option maxHeartbeats 4000000 in
theorem abbr_or (i : Int) (a b : Tr) (A : Option Addr) (c B : Nat) (w : World) (hB : B ≤ w.heap.size) (ht : IsT w B (.node 9 i [a, b]) A c) :
    Calls Try.prog 134 #[.agg #[.int .i64 9, .int .i64 i, .slice A 2 c]] w fun e w' => ∃ Aa ca Ab cb, e = .returned (.iface 132 (.agg #[.int .i64 a.k, .int .i64 a.i, .slice Aa a.ks.length ca, .int .i64 b.k, .int .i64 b.i, .slice Ab b.ks.length cb])) ∧ IsT w B a Aa ca ∧ IsT w B b Ab cb ∧ Below w.heap.size w w' := by
  obtain ⟨g, o, Aa, ca, Ab, cb, rfl, hg, ha, hb, ta, tb, hc⟩ := kidsA2 ht
  have B0 := Lib.hid (show Below w.heap.size w (w.alloc (.cells #[.int .i64 9, .int .i64 i, .slice (some ⟨g, o, none⟩) 2 c] 24)) from (Below.refl _ _).alloc (Nat.le_refl _) _)
  have X0 := Lib.hid (Box3.new w (.int .i64 9) (.int .i64 i) (.slice (some ⟨g, o, none⟩) 2 c))
  have HA := Lib.hid (ha.keep B0.out (by omega))
  have HB := Lib.hid (hb.keep B0.out (by omega))
  have TA := Lib.hid ta
  have TB := Lib.hid tb
  clear ht ha hb ta tb
  go_enter Try.func134, Try.ntmps134
  go_wp2_with fail
  go_region_held3 (fun w' => w'.cell? ⟨w.heap.size, 2, none⟩ = some (.slice (some ⟨g, o, none⟩) 2 c) ∧ (w'.cell? ⟨g, o, none⟩ = some (.int .i64 a.k) ∧ w'.cell? ⟨g, o + 1, none⟩ = some (.int .i64 a.i) ∧ w'.cell? ⟨g, o + 2, none⟩ = some (.slice Aa a.ks.length ca)) ∧ (w'.cell? ⟨g, o + 3, none⟩ = some (.int .i64 b.k) ∧ w'.cell? ⟨g, o + 3 + 1, none⟩ = some (.int .i64 b.i) ∧ w'.cell? ⟨g, o + 3 + 2, none⟩ = some (.slice Ab b.ks.length cb)))
    (exact ⟨X0.out.cells.2.2, HA.out, HB.out⟩)
    (fail)
  all_goals
    go_wp2_with fail
    go_ret
    exact ⟨Aa, ca, Ab, cb, rfl, TA.out, TB.out, B0.out.drew⟩
set_option maxHeartbeats 4000000 in
theorem abbr_some (i : Int) (a : Tr) (A : Option Addr) (c B : Nat) (w : World) (hB : B ≤ w.heap.size) (ht : IsT w B (.node 10 i [a]) A c) :
    Calls Try.prog 134 #[.agg #[.int .i64 10, .int .i64 i, .slice A 1 c]] w fun e w' => ∃ Aa ca, e = .returned (.iface 134 (.agg #[.int .i64 i, .int .i64 a.k, .int .i64 a.i, .slice Aa a.ks.length ca])) ∧ IsT w B a Aa ca ∧ Below w.heap.size w w' := by
  obtain ⟨g, o, Aa, ca, rfl, hg, ha, ta, hc⟩ := kidsA1 ht
  have B0 := Lib.hid (show Below w.heap.size w (w.alloc (.cells #[.int .i64 10, .int .i64 i, .slice (some ⟨g, o, none⟩) 1 c] 24)) from (Below.refl _ _).alloc (Nat.le_refl _) _)
  have X0 := Lib.hid (Box3.new w (.int .i64 10) (.int .i64 i) (.slice (some ⟨g, o, none⟩) 1 c))
  have HA := Lib.hid (ha.keep B0.out (by omega))
  have TA := Lib.hid ta
  clear ht ha ta
  go_enter Try.func134, Try.ntmps134
  go_wp2_with fail
  go_region_held3 (fun w' => (w'.cell? ⟨w.heap.size, 1, none⟩ = some (.int .i64 i) ∧ w'.cell? ⟨w.heap.size, 2, none⟩ = some (.slice (some ⟨g, o, none⟩) 1 c)) ∧ (w'.cell? ⟨g, o, none⟩ = some (.int .i64 a.k) ∧ w'.cell? ⟨g, o + 1, none⟩ = some (.int .i64 a.i) ∧ w'.cell? ⟨g, o + 2, none⟩ = some (.slice Aa a.ks.length ca)))
    (exact ⟨⟨X0.out.cells.2.1, X0.out.cells.2.2⟩, HA.out⟩)
    (fail)
  all_goals
    go_wp2_with fail
    go_ret
    exact ⟨Aa, ca, rfl, TA.out, B0.out.drew⟩
theorem abbr_none (k i : Int) (A : Option Addr) (n c : Nat) (w : World) (hk : shortB k = false) :
    Calls Try.prog 134 #[.agg #[.int .i64 k, .int .i64 i, .slice A n c]] w fun e w' => e = .returned .nilIface ∧ Below w.heap.size w w' := by
  obtain ⟨h8, h9, h10⟩ := shortB_no hk
  have h8' : (k == 8) = false := by simpa using h8
  have h9' : (k == 9) = false := by simpa using h9
  have h10' : (k == 10) = false := by simpa using h10
  have B0 := Lib.hid (show Below w.heap.size w (w.alloc (.cells #[.int .i64 k, .int .i64 i, .slice A n c] 24)) from (Below.refl _ _).alloc (Nat.le_refl _) _)
  clear h8 h9 h10 hk
  go_enter Try.func134, Try.ntmps134
  go_wp2_with fail
  go_ret
  exact ⟨rfl, B0.out⟩
/-! ### unfolded -/
/-- what may be written: the box for what comes out -/
def RU (B : Nat) (w : World) (k : Nat) : Prop := (B ≤ k ∧ k < w.heap.size) ∨ k = w.heap.size + 1
structure UE (B : Nat) (w W : World) (g : Nat) (cs : List Value) (T : TypeId) (ts : List (Tr × Option Addr × Nat)) : Prop where
  rb : ∃ u v y, Box3 W (w.heap.size + 1) u v y
  cb : W.heap[g]? = some (.cells cs.toArray T (0, 0))
  hg : w.heap.size + 2 ≤ g
  fts : ∀ q ∈ ts, FrT (RU B w) W q.1 q.2.1 q.2.2
  bel : Below w.heap.size w W
  size : w.heap.size + 2 ≤ W.heap.size
section
variable {B : Nat} {w W W' : World} {g : Nat} {cs : List Value} {T : TypeId} {ts : List (Tr × Option Addr × Nat)}
theorem UE.glt (h : UE B w W g cs T ts) : g < W.heap.size := (Array.getElem?_eq_some_iff.1 h.cb).1
theorem UE.keep (h : UE B w W g cs T ts) (hb : Below W.heap.size W W') : UE B w W' g cs T ts :=
  ⟨by obtain ⟨u, v, y, hr⟩ := h.rb; exact ⟨u, v, y, hr.keep hb hr.lt⟩, (hb.block g h.glt).trans h.cb, h.hg, fun q hq => (h.fts q hq).keep hb, h.bel.trans (hb.mono h.bel.size), Nat.le_trans h.size hb.size⟩
theorem UE.drew (h : UE B w W g cs T ts) : UE B w W.drew g cs T ts := h.keep (Below.refl _ _).drew
theorem UE.hX (h : UE B w W g cs T ts) : ∀ k, RU B w k → k < W.heap.size := fun k hk => by have := h.size; unfold RU at hk; omega
theorem UE.more (h : UE B w W g cs T ts) {t : Tr} {D : Option Addr} {cb : Nat} (ht : FrT (RU B w) W t D cb) : UE B w W g cs T ((t, D, cb) :: ts) :=
  ⟨h.rb, h.cb, h.hg, fun q hq => by rcases List.mem_cons.1 hq with rfl | hq; exact ht; exact h.fts q hq, h.bel, h.size⟩
theorem UE.ft (h : UE B w W g cs T ts) (t : Tr) (D : Option Addr) (cb : Nat) (hx : (t, D, cb) ∈ ts) : FrT (RU B w) W t D cb := h.fts _ hx
theorem UE.set (h : UE B w W g cs T ts) (u v y : Value) : UE B w (((W.setCell ⟨w.heap.size + 1, 0, none⟩ u).setCell ⟨w.heap.size + 1, 1, none⟩ v).setCell ⟨w.heap.size + 1, 2, none⟩ y) g cs T ts := by
  have far : ∀ k, k ≠ w.heap.size + 1 → (((W.setCell ⟨w.heap.size + 1, 0, none⟩ u).setCell ⟨w.heap.size + 1, 1, none⟩ v).setCell ⟨w.heap.size + 1, 2, none⟩ y).heap[k]? = W.heap[k]? := fun k hk => by
    rw [heap_setCell_other _ _ _ _ hk, heap_setCell_other _ _ _ _ hk, heap_setCell_other _ _ _ _ hk]
  refine ⟨?_, (far _ (by have := h.hg; omega)).trans h.cb, h.hg, fun q hq => (h.fts q hq).set3 (.inr rfl) _ _ _, below_set3 h.bel _ _ _ (by omega), by have := h.size; simpa using this⟩
  obtain ⟨u', v', y', hr⟩ := h.rb
  exact ⟨_, _, _, hr.setall u v y⟩
theorem UE.res (h : UE B w W g cs T ts) (u v y : Value) : Box3 (((W.setCell ⟨w.heap.size + 1, 0, none⟩ u).setCell ⟨w.heap.size + 1, 1, none⟩ v).setCell ⟨w.heap.size + 1, 2, none⟩ y) (w.heap.size + 1) u v y := by
  obtain ⟨u', v', y', hr⟩ := h.rb
  exact hr.setall u v y
theorem UE.froz (h : UE B w W g cs T ts) (o : Nat) : W.frozen? ⟨w.heap.size + 1, o, none⟩ = false := by
  obtain ⟨u', v', y', hr⟩ := h.rb
  exact hr.frozen o
theorem UE.cell (h : UE B w W g cs T ts) (j : Nat) : W.cell? ⟨g, j, none⟩ = cs[j]? := by
  have := h.cb
  unfold World.cell?
  rw [this]
  simp
end
/-- a tree that is answered -/
def UnfP (B : Nat) (w : World) (t : Tr) (e : Ending) (w' : World) : Prop := ∃ A c, e = .returned (.agg #[.int .i64 t.k, .int .i64 t.i, .slice A t.ks.length c]) ∧ FrT (fun k => B ≤ k ∧ k < w.heap.size) w' t A c ∧ Below w.heap.size w w'
theorem FrT.less {X Y : Nat → Prop} {W : World} {t : Tr} {A : Option Addr} {c : Nat} (h : FrT X W t A c) (hs : ∀ k, Y k → X k) : FrT Y W t A c := fun W' h1 h2 => h W' (fun k hk hn => h1 k hk (fun hy => hn (hs k hy))) h2
theorem zero_box (w : World) (x y z : Value) : Below w.heap.size w ((w.alloc (.cells #[x, y, z] 24)).alloc (.cells #[.int .i64 0, .int .i64 0, .slice none 0 0] 24)) ∧ Box3 ((w.alloc (.cells #[x, y, z] 24)).alloc (.cells #[.int .i64 0, .int .i64 0, .slice none 0 0] 24)) w.heap.size x y z ∧ Box3 ((w.alloc (.cells #[x, y, z] 24)).alloc (.cells #[.int .i64 0, .int .i64 0, .slice none 0 0] 24)) (w.heap.size + 1) (.int .i64 0) (.int .i64 0) (.slice none 0 0) := boxes2 w x y z _ _ _
theorem ue_start (B : Nat) {w w0 w1 : World} {u v y : Value} (cs : List Value) (T : TypeId) (hb0 : Below w.heap.size w w0) (e1 : Box3 w0 (w.heap.size + 1) u v y) (hb1 : Below w0.heap.size w0 w1) : UE B w (w1.alloc (.cells cs.toArray T)) w1.heap.size cs T [] := by
  have h1 := e1.lt
  have h2 := hb1.size
  refine ⟨⟨u, v, y, (e1.keep hb1 h1).keep (alB w1 _) (by omega)⟩, new_at w1 _, by omega, fun q hq => by simp at hq, (hb0.trans (hb1.mono hb0.size)).trans ((alB w1 _).mono (by have := hb0.size; omega)), by simp; omega⟩
theorem FrT.ofLow {X : Nat → Prop} {W0 W : World} {B : Nat} {t : Tr} {A : Option Addr} {c : Nat} (h : IsT W0 B t A c) (hX : ∀ k, X k → B ≤ k) (hb : ∀ k, k < B → W.heap[k]? = W0.heap[k]?) (hz : B ≤ W.heap.size) : FrT X W t A c :=
  fun W' h1 h2 => IsT.keepH (B := B) (fun k hk => (h1 k (by omega) (fun hx => by have := hX k hx; omega)).trans (hb k hk)) (by omega) t h

set_option maxHeartbeats 8000000 in
set_option maxRecDepth 100000 in
theorem unfold_and (i : Int) (a b : Tr) (A : Option Addr) (c B : Nat) (w : World) (hB : B ≤ w.heap.size) (ht : IsT w B (.node 8 i [a, b]) A c) :
    Calls Try.prog 110 #[.agg #[.int .i64 8, .int .i64 i, .slice A 2 c]] w (UnfP B w (notT (impT a (notT b)))) := by
  have hta : ∀ (v : Value) (w : World), (Instr.typeAssert (.iface 131 v) 128 131 true).run Try.prog w = .ok (.tuple #[v, .bool true]) w := fun v w => by rfl
  have Z := Lib.hid (zero_box w (.int .i64 8) (.int .i64 i) (.slice A 2 c))
  have HT := Lib.hid (ht.keep (B' := B) (Z.out.1.mono hB) (Nat.le_refl _))
  obtain ⟨p0, p1, p2⟩ := Z.out.2.1.cells
  clear ht
  go_enter Try.func110, Try.ntmps110
  go_wp2_with fail
  refine (abbr_and i a b A c B _ (by have := Z.out.1.size; omega) (by exact HT.out)).mono ?_
  rintro e1 w1 ⟨Aa, ca, Ab, cb, rfl, ia, ib, hb1⟩
  have E := Lib.hid (ue_start B [.int .i64 a.k, .int .i64 a.i, .slice Aa a.ks.length ca, .int .i64 b.k, .int .i64 b.i, .slice Ab b.ks.length cb] 131 Z.out.1 Z.out.2.2 hb1).drew
  have zz := Z.out.2.2.lt
  have LOW := Lib.hid (fun k (hk : k < B) => (((alB w1 (.cells #[.int .i64 a.k, .int .i64 a.i, .slice Aa a.ks.length ca, .int .i64 b.k, .int .i64 b.i, .slice Ab b.ks.length cb] 131)).mono (B := w1.heap.size) (B' := w.heap.size) (by have := hb1.size; omega)).block k (by omega)).trans (hb1.block k (by omega)))
  replace E := Lib.hid (E.out.more (FrT.ofLow (X := RU B w) ia (fun k hk => by unfold RU at hk; omega) LOW.out (by have := E.out.size; omega)))
  replace E := Lib.hid (E.out.more (FrT.ofLow (X := RU B w) ib (fun k hk => by unfold RU at hk; omega) LOW.out (by have := E.out.size; omega)))
  have f0 := E.out.froz 0
  have f1 := E.out.froz 1
  have f2 := E.out.froz 2
  clear ia ib hb1 p0 p1 p2 LOW zz
  go_wp2_with fail
  go_region_held3 (fun w' => (w'.cell? ⟨w1.heap.size, 0, none⟩ = some (.int .i64 a.k) ∧ w'.cell? ⟨w1.heap.size, 1, none⟩ = some (.int .i64 a.i) ∧ w'.cell? ⟨w1.heap.size, 2, none⟩ = some (.slice Aa a.ks.length ca)) ∧ (w'.cell? ⟨w1.heap.size, 3, none⟩ = some (.int .i64 b.k) ∧ w'.cell? ⟨w1.heap.size, 3 + 1, none⟩ = some (.int .i64 b.i) ∧ w'.cell? ⟨w1.heap.size, 3 + 2, none⟩ = some (.slice Ab b.ks.length cb)))
    (first | exact ⟨⟨(E.out).cell 0, (E.out).cell 1, (E.out).cell 2⟩, (E.out).cell 3, (E.out).cell 4, (E.out).cell 5⟩ | exact ⟨⟨(E.out.set _ _ _).cell 0, (E.out.set _ _ _).cell 1, (E.out.set _ _ _).cell 2⟩, (E.out.set _ _ _).cell 3, (E.out.set _ _ _).cell 4, (E.out.set _ _ _).cell 5⟩)
    (first
        | (go_at_call 135; refine ((cnot_row (b).k (b).i Ab (b).ks.length cb _).mono fun _ _ h => row_tree1 h E.out.hX (E.out.ft (b) Ab cb (by simp))).mono ?_; rintro e5 w5 ⟨R0, r0, rfl, h5, hb5⟩; replace E := Lib.hid ((E.out.keep hb5).more h5); have f0 := E.out.froz 0; have f1 := E.out.froz 1; have f2 := E.out.froz 2; obtain ⟨u5, v5, y5, hr5⟩ := E.out.rb; obtain ⟨s0, s1, s2⟩ := hr5.cells; clear hb5 h5 hr5)
        | (go_at_call 136; refine ((cimp_row (a).k (a).i Aa (a).ks.length ca (notT b).k (notT b).i R0 (notT b).ks.length r0 _).mono fun _ _ h => row_tree2 h E.out.hX (E.out.ft (a) Aa ca (by simp)) (E.out.ft (notT b) R0 r0 (by simp))).mono ?_; rintro e5 w5 ⟨R1, r1, rfl, h5, hb5⟩; replace E := Lib.hid ((E.out.keep hb5).more h5); have f0 := E.out.froz 0; have f1 := E.out.froz 1; have f2 := E.out.froz 2; obtain ⟨u5, v5, y5, hr5⟩ := E.out.rb; obtain ⟨s0, s1, s2⟩ := hr5.cells; clear hb5 h5 hr5)
        | (go_at_call 135; refine ((cnot_row (impT a (notT b)).k (impT a (notT b)).i R1 (impT a (notT b)).ks.length r1 _).mono fun _ _ h => row_tree1 h E.out.hX (E.out.ft (impT a (notT b)) R1 r1 (by simp))).mono ?_; rintro e5 w5 ⟨R2, r2, rfl, h5, hb5⟩; replace E := Lib.hid ((E.out.keep hb5).more h5); have f0 := E.out.froz 0; have f1 := E.out.froz 1; have f2 := E.out.froz 2; obtain ⟨u5, v5, y5, hr5⟩ := E.out.rb; obtain ⟨s0, s1, s2⟩ := hr5.cells; clear hb5 h5 hr5))
  all_goals
    have E2 := Lib.hid (E.out.set (.int .i64 (notT (impT a (notT b))).k) (.int .i64 (notT (impT a (notT b))).i) (.slice R2 (notT (impT a (notT b))).ks.length r2))
    have RS := Lib.hid (E.out.res (.int .i64 (notT (impT a (notT b))).k) (.int .i64 (notT (impT a (notT b))).i) (.slice R2 (notT (impT a (notT b))).ks.length r2))
    obtain ⟨q0, q1, q2⟩ := RS.out.cells
    go_wp2_with fail
    exact bodyPost_ret (v := .agg #[.int .i64 (notT (impT a (notT b))).k, .int .i64 (notT (impT a (notT b))).i, .slice R2 (notT (impT a (notT b))).ks.length r2]) (by simp [results, Try.results110, go_sem, q0, q1, q2]) rfl ⟨R2, r2, rfl, (E2.out.ft (notT (impT a (notT b))) R2 r2 (by simp)).less (fun k hk => .inl hk), E2.out.bel⟩
set_option maxHeartbeats 8000000 in
set_option maxRecDepth 100000 in
theorem unfold_or (i : Int) (a b : Tr) (A : Option Addr) (c B : Nat) (w : World) (hB : B ≤ w.heap.size) (ht : IsT w B (.node 9 i [a, b]) A c) :
    Calls Try.prog 110 #[.agg #[.int .i64 9, .int .i64 i, .slice A 2 c]] w (UnfP B w (impT (notT a) b)) := by
  have hta : ∀ (v : Value) (w : World), (Instr.typeAssert (.iface 132 v) 128 132 true).run Try.prog w = .ok (.tuple #[v, .bool true]) w := fun v w => by rfl
  have htn1 : ∀ (v : Value) (w : World), (Instr.typeAssert (.iface 132 v) 128 131 true).run Try.prog w = .ok (.tuple #[.agg #[.int .i64 0, .int .i64 0, .slice none 0 0, .int .i64 0, .int .i64 0, .slice none 0 0], .bool false]) w := fun v w => by rfl
  have Z := Lib.hid (zero_box w (.int .i64 9) (.int .i64 i) (.slice A 2 c))
  have HT := Lib.hid (ht.keep (B' := B) (Z.out.1.mono hB) (Nat.le_refl _))
  obtain ⟨p0, p1, p2⟩ := Z.out.2.1.cells
  clear ht
  go_enter Try.func110, Try.ntmps110
  go_wp2_with fail
  refine (abbr_or i a b A c B _ (by have := Z.out.1.size; omega) (by exact HT.out)).mono ?_
  rintro e1 w1 ⟨Aa, ca, Ab, cb, rfl, ia, ib, hb1⟩
  have E := Lib.hid (ue_start B [.int .i64 a.k, .int .i64 a.i, .slice Aa a.ks.length ca, .int .i64 b.k, .int .i64 b.i, .slice Ab b.ks.length cb] 132 Z.out.1 Z.out.2.2 hb1).drew
  have zz := Z.out.2.2.lt
  have LOW := Lib.hid (fun k (hk : k < B) => (((alB w1 (.cells #[.int .i64 a.k, .int .i64 a.i, .slice Aa a.ks.length ca, .int .i64 b.k, .int .i64 b.i, .slice Ab b.ks.length cb] 132)).mono (B := w1.heap.size) (B' := w.heap.size) (by have := hb1.size; omega)).block k (by omega)).trans (hb1.block k (by omega)))
  replace E := Lib.hid (E.out.more (FrT.ofLow (X := RU B w) ia (fun k hk => by unfold RU at hk; omega) LOW.out (by have := E.out.size; omega)))
  replace E := Lib.hid (E.out.more (FrT.ofLow (X := RU B w) ib (fun k hk => by unfold RU at hk; omega) LOW.out (by have := E.out.size; omega)))
  have f0 := E.out.froz 0
  have f1 := E.out.froz 1
  have f2 := E.out.froz 2
  clear ia ib hb1 p0 p1 p2 LOW zz
  go_wp2_with fail
  go_region_held3 (fun w' => (w'.cell? ⟨w1.heap.size, 0, none⟩ = some (.int .i64 a.k) ∧ w'.cell? ⟨w1.heap.size, 1, none⟩ = some (.int .i64 a.i) ∧ w'.cell? ⟨w1.heap.size, 2, none⟩ = some (.slice Aa a.ks.length ca)) ∧ (w'.cell? ⟨w1.heap.size, 3, none⟩ = some (.int .i64 b.k) ∧ w'.cell? ⟨w1.heap.size, 3 + 1, none⟩ = some (.int .i64 b.i) ∧ w'.cell? ⟨w1.heap.size, 3 + 2, none⟩ = some (.slice Ab b.ks.length cb)))
    (first | exact ⟨⟨(E.out).cell 0, (E.out).cell 1, (E.out).cell 2⟩, (E.out).cell 3, (E.out).cell 4, (E.out).cell 5⟩ | exact ⟨⟨(E.out.set _ _ _).cell 0, (E.out.set _ _ _).cell 1, (E.out.set _ _ _).cell 2⟩, (E.out.set _ _ _).cell 3, (E.out.set _ _ _).cell 4, (E.out.set _ _ _).cell 5⟩)
    (first
        | (go_at_call 135; refine ((cnot_row (a).k (a).i Aa (a).ks.length ca _).mono fun _ _ h => row_tree1 h E.out.hX (E.out.ft (a) Aa ca (by simp))).mono ?_; rintro e5 w5 ⟨R0, r0, rfl, h5, hb5⟩; replace E := Lib.hid ((E.out.keep hb5).more h5); have f0 := E.out.froz 0; have f1 := E.out.froz 1; have f2 := E.out.froz 2; obtain ⟨u5, v5, y5, hr5⟩ := E.out.rb; obtain ⟨s0, s1, s2⟩ := hr5.cells; clear hb5 h5 hr5)
        | (go_at_call 136; refine ((cimp_row (notT a).k (notT a).i R0 (notT a).ks.length r0 (b).k (b).i Ab (b).ks.length cb _).mono fun _ _ h => row_tree2 h E.out.hX (E.out.ft (notT a) R0 r0 (by simp)) (E.out.ft (b) Ab cb (by simp))).mono ?_; rintro e5 w5 ⟨R1, r1, rfl, h5, hb5⟩; replace E := Lib.hid ((E.out.keep hb5).more h5); have f0 := E.out.froz 0; have f1 := E.out.froz 1; have f2 := E.out.froz 2; obtain ⟨u5, v5, y5, hr5⟩ := E.out.rb; obtain ⟨s0, s1, s2⟩ := hr5.cells; clear hb5 h5 hr5))
  all_goals
    have E2 := Lib.hid (E.out.set (.int .i64 (impT (notT a) b).k) (.int .i64 (impT (notT a) b).i) (.slice R1 (impT (notT a) b).ks.length r1))
    have RS := Lib.hid (E.out.res (.int .i64 (impT (notT a) b).k) (.int .i64 (impT (notT a) b).i) (.slice R1 (impT (notT a) b).ks.length r1))
    obtain ⟨q0, q1, q2⟩ := RS.out.cells
    go_wp2_with fail
    exact bodyPost_ret (v := .agg #[.int .i64 (impT (notT a) b).k, .int .i64 (impT (notT a) b).i, .slice R1 (impT (notT a) b).ks.length r1]) (by simp [results, Try.results110, go_sem, q0, q1, q2]) rfl ⟨R1, r1, rfl, (E2.out.ft (impT (notT a) b) R1 r1 (by simp)).less (fun k hk => .inl hk), E2.out.bel⟩
set_option maxHeartbeats 8000000 in
set_option maxRecDepth 100000 in
theorem unfold_some (i : Int) (a : Tr) (A : Option Addr) (c B : Nat) (w : World) (hB : B ≤ w.heap.size) (ht : IsT w B (.node 10 i [a]) A c) :
    Calls Try.prog 110 #[.agg #[.int .i64 10, .int .i64 i, .slice A 1 c]] w (UnfP B w (notT (allT i (notT a)))) := by
  have hta : ∀ (v : Value) (w : World), (Instr.typeAssert (.iface 134 v) 128 134 true).run Try.prog w = .ok (.tuple #[v, .bool true]) w := fun v w => by rfl
  have htn1 : ∀ (v : Value) (w : World), (Instr.typeAssert (.iface 134 v) 128 131 true).run Try.prog w = .ok (.tuple #[.agg #[.int .i64 0, .int .i64 0, .slice none 0 0, .int .i64 0, .int .i64 0, .slice none 0 0], .bool false]) w := fun v w => by rfl
  have htn2 : ∀ (v : Value) (w : World), (Instr.typeAssert (.iface 134 v) 128 132 true).run Try.prog w = .ok (.tuple #[.agg #[.int .i64 0, .int .i64 0, .slice none 0 0, .int .i64 0, .int .i64 0, .slice none 0 0], .bool false]) w := fun v w => by rfl
  have Z := Lib.hid (zero_box w (.int .i64 10) (.int .i64 i) (.slice A 1 c))
  have HT := Lib.hid (ht.keep (B' := B) (Z.out.1.mono hB) (Nat.le_refl _))
  obtain ⟨p0, p1, p2⟩ := Z.out.2.1.cells
  clear ht
  go_enter Try.func110, Try.ntmps110
  go_wp2_with fail
  refine (abbr_some i a A c B _ (by have := Z.out.1.size; omega) (by exact HT.out)).mono ?_
  rintro e1 w1 ⟨Aa, ca, rfl, ia, hb1⟩
  have E := Lib.hid (ue_start B [.int .i64 i, .int .i64 a.k, .int .i64 a.i, .slice Aa a.ks.length ca] 134 Z.out.1 Z.out.2.2 hb1).drew
  have zz := Z.out.2.2.lt
  have LOW := Lib.hid (fun k (hk : k < B) => (((alB w1 (.cells #[.int .i64 i, .int .i64 a.k, .int .i64 a.i, .slice Aa a.ks.length ca] 134)).mono (B := w1.heap.size) (B' := w.heap.size) (by have := hb1.size; omega)).block k (by omega)).trans (hb1.block k (by omega)))
  replace E := Lib.hid (E.out.more (FrT.ofLow (X := RU B w) ia (fun k hk => by unfold RU at hk; omega) LOW.out (by have := E.out.size; omega)))
  have f0 := E.out.froz 0
  have f1 := E.out.froz 1
  have f2 := E.out.froz 2
  clear ia hb1 p0 p1 p2 LOW zz
  go_wp2_with fail
  go_region_held3 (fun w' => w'.cell? ⟨w1.heap.size, 0, none⟩ = some (.int .i64 i) ∧ (w'.cell? ⟨w1.heap.size, 1, none⟩ = some (.int .i64 a.k) ∧ w'.cell? ⟨w1.heap.size, 1 + 1, none⟩ = some (.int .i64 a.i) ∧ w'.cell? ⟨w1.heap.size, 1 + 2, none⟩ = some (.slice Aa a.ks.length ca)))
    (first | exact ⟨(E.out).cell 0, (E.out).cell 1, (E.out).cell 2, (E.out).cell 3⟩ | exact ⟨(E.out.set _ _ _).cell 0, (E.out.set _ _ _).cell 1, (E.out.set _ _ _).cell 2, (E.out.set _ _ _).cell 3⟩)
    (first
        | (go_at_call 135; refine ((cnot_row (a).k (a).i Aa (a).ks.length ca _).mono fun _ _ h => row_tree1 h E.out.hX (E.out.ft (a) Aa ca (by simp))).mono ?_; rintro e5 w5 ⟨R0, r0, rfl, h5, hb5⟩; replace E := Lib.hid ((E.out.keep hb5).more h5); have f0 := E.out.froz 0; have f1 := E.out.froz 1; have f2 := E.out.froz 2; obtain ⟨u5, v5, y5, hr5⟩ := E.out.rb; obtain ⟨s0, s1, s2⟩ := hr5.cells; clear hb5 h5 hr5)
        | (go_at_call 78; refine ((call_row i (notT a).k (notT a).i R0 (notT a).ks.length r0 _).mono fun _ _ h => row_tree1 h E.out.hX (E.out.ft (notT a) R0 r0 (by simp))).mono ?_; rintro e5 w5 ⟨R1, r1, rfl, h5, hb5⟩; replace E := Lib.hid ((E.out.keep hb5).more h5); have f0 := E.out.froz 0; have f1 := E.out.froz 1; have f2 := E.out.froz 2; obtain ⟨u5, v5, y5, hr5⟩ := E.out.rb; obtain ⟨s0, s1, s2⟩ := hr5.cells; clear hb5 h5 hr5)
        | (go_at_call 135; refine ((cnot_row (allT i (notT a)).k (allT i (notT a)).i R1 (allT i (notT a)).ks.length r1 _).mono fun _ _ h => row_tree1 h E.out.hX (E.out.ft (allT i (notT a)) R1 r1 (by simp))).mono ?_; rintro e5 w5 ⟨R2, r2, rfl, h5, hb5⟩; replace E := Lib.hid ((E.out.keep hb5).more h5); have f0 := E.out.froz 0; have f1 := E.out.froz 1; have f2 := E.out.froz 2; obtain ⟨u5, v5, y5, hr5⟩ := E.out.rb; obtain ⟨s0, s1, s2⟩ := hr5.cells; clear hb5 h5 hr5))
  all_goals
    have E2 := Lib.hid (E.out.set (.int .i64 (notT (allT i (notT a))).k) (.int .i64 (notT (allT i (notT a))).i) (.slice R2 (notT (allT i (notT a))).ks.length r2))
    have RS := Lib.hid (E.out.res (.int .i64 (notT (allT i (notT a))).k) (.int .i64 (notT (allT i (notT a))).i) (.slice R2 (notT (allT i (notT a))).ks.length r2))
    obtain ⟨q0, q1, q2⟩ := RS.out.cells
    go_wp2_with fail
    exact bodyPost_ret (v := .agg #[.int .i64 (notT (allT i (notT a))).k, .int .i64 (notT (allT i (notT a))).i, .slice R2 (notT (allT i (notT a))).ks.length r2]) (by simp [results, Try.results110, go_sem, q0, q1, q2]) rfl ⟨R2, r2, rfl, (E2.out.ft (notT (allT i (notT a))) R2 r2 (by simp)).less (fun k hk => .inl hk), E2.out.bel⟩
end Go.Proofs.Ytjdhmfpkhijkeaa
