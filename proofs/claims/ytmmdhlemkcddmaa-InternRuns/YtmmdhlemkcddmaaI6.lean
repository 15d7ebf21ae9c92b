/- add of package intern. -/
import Derived.Test.YtmmdhlemkcddmaaI5
import Derived.Test.YtmmdhlemkcddmaaF7
import Derived.Deep.DeepCutAuto
namespace Go.Proofs.Ytmmdhlemkcddmaa
open Go.RowKit
set_option linter.unusedVariables false
set_option linter.unusedSimpArgs false
theorem len_cell (w : World) (P : Nat) (A : Option Addr) (n c : Nat) (h : w.cell? ⟨P, 2, none⟩ = some (.slice A n c)) :
    Calls Try.prog 23 #[.pointer (some ⟨P, 0, none⟩)] w fun e w' => e = .returned (.int .i64 (n : Int)) ∧ w' = w := by
  go_enter Try.func23, Try.ntmps23
  go_wp2_with fail
  go_ret
  exact ⟨rfl, rfl⟩
theorem infoEn : (Try.prog.info? 116).map (fun i => (i.zero, i.size, i.bytes)) = some (some (.agg #[.int .i64 0, .int .i64 0, .int .i64 0, .int .i64 0, .int .i64 0, .int .i64 0, .int .u64 0, .int .i64 0]), 8, 64) := by kernel_rfl
theorem sliceEn : Try.prog.underlying 73 = some (.slice 116) := by kernel_rfl
/-- the state at the region that appends -/
structure Rg (tl lo P M room : Nat) (w0 w W : World) (A : Option Addr) (L : List Tr) (A2 : Option Addr) (c2 : Nat) (t : Tr) (At : Option Addr) (ct : Nat) (kb : Nat) (cs : List Int) : Prop where
  aft : Aft tl lo P M room w W A L A2 c2
  eb : Box3 W w.heap.size (.int .i64 t.k) (.int .i64 t.i) (.slice At t.ks.length ct)
  kb : BoxN W kb cs
  b0 : Below tl w0 W
  htl : tl ≤ w.heap.size
theorem Rg.keep {tl lo P M room : Nat} {w0 w W W' : World} {A : Option Addr} {L : List Tr} {A2 : Option Addr} {c2 : Nat} {t : Tr} {At : Option Addr} {ct : Nat} {kb : Nat} {cs : List Int} (h : Rg tl lo P M room w0 w W A L A2 c2 t At ct kb cs) (hb : Below W.heap.size W W') : Rg tl lo P M room w0 w W' A L A2 c2 t At ct kb cs :=
  ⟨h.aft.keep hb (Nat.le_trans h.htl h.aft.kp.size), h.eb.keep hb h.eb.lt, (hb.block _ h.kb.lt).trans h.kb, h.b0.trans (hb.mono (Nat.le_trans h.htl h.aft.kp.size)), h.htl⟩
/-- between the two: the entry is there, its number not yet -/
structure Mid (tl lo P M room : Nat) (w0 w W : World) (A : Option Addr) (L : List Tr) (t : Tr) (At : Option Addr) (ct : Nat) (kb : Nat) (cs : List Int) (A2 : Option Addr) (c2 : Nat) : Prop where
  box : W.heap[P]? = some (.cells #[.int .i64 (room : Int), .map (some M), .slice A2 (L.length + 1) c2] 75 (0, 0))
  own : W.ownsRow lo 116 8 (.slice A2 (L.length + 1) c2) (L.length + 1) (rowEn L L ++ rowE1 L t)
  mp : ∃ f, IsMp W M L.length f ∧ MapOf L f
  bel : Below tl w W
  kp : Kp w W (TB P M A)
  ow : (Value.slice A2 0 0).ownBlock = (Value.slice A 0 0).ownBlock ∨ ∀ k, (Value.slice A2 0 0).ownBlock = some k → w.heap.size ≤ k
  eb : Box3 W w.heap.size (.int .i64 t.k) (.int .i64 t.i) (.slice At t.ks.length ct)
  kb : BoxN W kb cs
/-- the entry appended, the table's row stored -/
theorem Rg.mid {tl lo P M room : Nat} {w0 w W w4 : World} {A : Option Addr} {L : List Tr} {A2 : Option Addr} {c2 : Nat} {t : Tr} {At : Option Addr} {ct : Nat} {kb : Nat} {cs : List Int} (h : Rg tl lo P M room w0 w W A L A2 c2 t At ct kb cs) (hlo : tl ≤ lo) (g cap H : Nat) (hH : w.heap.size ≤ H)
    (hown : w4.ownsRow lo 116 8 (.slice (some ⟨g, 0, none⟩) (L.length + 1) cap) (L.length + 1) (rowEn L L ++ rowE1 L t)) (hg : W.grownBy w4 (Value.slice A2 L.length c2).ownBlock) (hat : (Value.slice A2 L.length c2).ownBlock = some g ∨ g = H) :
    Mid tl lo P M room w0 w (w4.setCell ⟨P, 2, none⟩ (.slice (some ⟨g, 0, none⟩) (L.length + 1) cap)) A L t At ct kb cs (some ⟨g, 0, none⟩) cap := by
  have hT := h.aft.tab
  have hPo : some P ≠ (Value.slice A2 L.length c2).ownBlock := fun e => by
    rcases hT.own.2 with ⟨e2, _⟩ | ⟨g', cap', cur, e2, _, hg', _⟩
    · rw [e2] at e; cases e
    · rw [e2] at e; cases e
      have := hT.box; rw [hg'] at this; simp at this
  have hMo : some M ≠ (Value.slice A2 L.length c2).ownBlock := fun e => by
    obtain ⟨f, hf, _⟩ := hT.mp
    obtain ⟨es, cl, he⟩ := hf.isMap
    rcases hT.own.2 with ⟨e2, _⟩ | ⟨g', cap', cur, e2, _, hg', _⟩
    · rw [e2] at e; cases e
    · rw [e2] at e; cases e
      rw [hg'] at he; simp at he
  have hPM : P ≠ M := fun e => by
    obtain ⟨f, hf, _⟩ := hT.mp
    obtain ⟨es, cl, he⟩ := hf.isMap
    rw [← e, hT.box] at he; simp at he
  have hPlt := (hT.lt P (.inl rfl)).2
  have hMlt := (hT.lt M (.inr (.inl rfl))).2
  have box4 : w4.heap[P]? = some (.cells #[.int .i64 (room : Int), .map (some M), .slice A2 L.length c2] 75 (0, 0)) := (hg.block P hPlt hPo).trans hT.box
  have hPg : g ≠ P := fun e => by
    rcases hown.2 with ⟨e2, _⟩ | ⟨g', cap', cur, e2, _, hg', _⟩
    · cases e2
    · cases e2; rw [e, box4] at hg'; simp at hg'
  have hkP : kb ≠ P := fun e => by have := h.kb; unfold BoxN at this; rw [e, hT.box] at this; simp at this
  have heP : w.heap.size ≠ P := fun e => by have := h.eb; unfold Box3 at this; rw [e, hT.box] at this; simp at this
  have hko : some kb ≠ (Value.slice A2 L.length c2).ownBlock := fun e => hT.ne h.kb (by decide) (by decide) (.inr (.inr (by rw [ownB (n' := L.length) (c' := c2), ← e])))
  have heo : some w.heap.size ≠ (Value.slice A2 L.length c2).ownBlock := fun e => hT.ne h.eb (by decide) (by decide) (.inr (.inr (by rw [ownB (n' := L.length) (c' := c2), ← e])))
  have hloP := hT.loP
  refine ⟨?_, ?_, ?_, ?_, ?_, ?_, ?_, ?_⟩
  · rw [heap_setCell_same _ _ _ _ _ _ box4]; rfl
  · obtain ⟨h1, h2⟩ := hown
    refine ⟨h1, ?_⟩
    rcases h2 with h2 | ⟨g', cap', cur, e, hb, hg', h3⟩
    · exact .inl h2
    · cases e
      exact .inr ⟨g, cap, cur, rfl, hb, (heap_setCell_other _ _ _ _ (by show g ≠ P; exact hPg)).trans hg', h3⟩
  · obtain ⟨f, hf, hm⟩ := hT.mp
    exact ⟨f, hf.kept ((heap_setCell_other _ _ _ _ (by show M ≠ P; exact hPM.symm)).trans (hg.block M hMlt hMo)), hm⟩
  · refine (h.aft.bel.trans ⟨hg.os, hg.tape, hg.output, hg.size, fun k hk => hg.block k ?_ ?_⟩).setCell (by show tl ≤ P; omega) _
    · have := h.htl; have := h.aft.kp.size; omega
    · intro e
      have := (hT.own.lt k e.symm).1
      omega
  · have hz : w.heap.size ≤ (w4.setCell ⟨P, 2, none⟩ (.slice (some ⟨g, 0, none⟩) (L.length + 1) cap)).heap.size := by
      have h1 := h.aft.kp.size
      have h2 := hg.size
      have h3 : (w4.setCell ⟨P, 2, none⟩ (.slice (some ⟨g, 0, none⟩) (L.length + 1) cap)).heap.size = w4.heap.size := by simp [World.setCell]
      omega
    refine ⟨hg.os.trans h.aft.kp.os, hg.tape.trans h.aft.kp.tape, hg.output.trans h.aft.kp.output, hz, fun k hk hn => ?_⟩
    refine (heap_setCell_other _ _ _ _ (fun e => hn (.inl e))).trans ((hg.block k (Nat.lt_of_lt_of_le hk h.aft.kp.size) (fun e => ?_)).trans (h.aft.kp.block k hk hn))
    rcases h.aft.own with ho | ho
    · exact hn (.inr (.inr (by rw [← ho, ownB (n' := L.length) (c' := c2), ← e])))
    · have := ho k (by rw [ownB (n' := L.length) (c' := c2), ← e]); omega
  · rcases hat with e | e
    · rcases h.aft.own with ho | ho
      · exact .inl (by rw [← ho, ownB (A := A2) (n' := L.length) (c' := c2), e]; rfl)
      · refine .inr fun k hk => ?_
        have : g = k := by simpa [Value.ownBlock] using hk
        exact ho k (by rw [ownB (n' := L.length) (c' := c2), e, this])
    · refine .inr fun k hk => ?_
      have : g = k := by simpa [Value.ownBlock] using hk
      omega
  · exact (heap_setCell_other _ _ _ _ (by show w.heap.size ≠ P; exact heP)).trans ((hg.block _ h.eb.lt heo).trans h.eb)
  · exact (heap_setCell_other _ _ _ _ (by show kb ≠ P; exact hkP)).trans ((hg.block _ h.kb.lt hko).trans h.kb)
theorem Rg.after {tl lo P M room : Nat} {w0 w W w4 : World} {A : Option Addr} {L : List Tr} {A2 : Option Addr} {c2 : Nat} {t : Tr} {At : Option Addr} {ct : Nat} {kb : Nat} {cs : List Int} (h : Rg tl lo P M room w0 w W A L A2 c2 t At ct kb cs) (hg : W.grownBy w4 (Value.slice A2 L.length c2).ownBlock) :
    (w4.cell? ⟨P, 2, none⟩ = some (.slice A2 L.length c2) ∧ w4.frozen? ⟨P, 2, none⟩ = false) ∧ BoxN w4 kb cs ∧ Box3 w4 w.heap.size (.int .i64 t.k) (.int .i64 t.i) (.slice At t.ks.length ct) := by
  have hT := h.aft.tab
  have hPo : some P ≠ (Value.slice A2 L.length c2).ownBlock := fun e => by
    rcases hT.own.2 with ⟨e2, _⟩ | ⟨g', cap', cur, e2, _, hg', _⟩
    · rw [e2] at e; cases e
    · rw [e2] at e; cases e
      have := hT.box; rw [hg'] at this; simp at this
  have hko : some kb ≠ (Value.slice A2 L.length c2).ownBlock := fun e => hT.ne h.kb (by decide) (by decide) (.inr (.inr (by rw [ownB (n' := L.length) (c' := c2), ← e])))
  have heo : some w.heap.size ≠ (Value.slice A2 L.length c2).ownBlock := fun e => hT.ne h.eb (by decide) (by decide) (.inr (.inr (by rw [ownB (n' := L.length) (c' := c2), ← e])))
  have box4 := (hg.block P (hT.lt P (.inl rfl)).2 hPo).trans hT.box
  exact ⟨⟨by simp [World.cell?, box4], by simp [World.frozen?, box4]⟩, (hg.block _ h.kb.lt hko).trans h.kb, (hg.block _ h.eb.lt heo).trans h.eb⟩
theorem Mid.keep {tl lo P M room : Nat} {w0 w W W' : World} {A : Option Addr} {L : List Tr} {t : Tr} {At : Option Addr} {ct : Nat} {kb : Nat} {cs : List Int} {A2 : Option Addr} {c2 : Nat} (h : Mid tl lo P M room w0 w W A L t At ct kb cs A2 c2) (hb : Below W.heap.size W W') (htl : tl ≤ w.heap.size) : Mid tl lo P M room w0 w W' A L t At ct kb cs A2 c2 := by
  obtain ⟨f, hf, hm⟩ := h.mp
  have hz := h.kp.size
  refine ⟨(hb.block _ (Array.getElem?_eq_some_iff.1 h.box).1).trans h.box, ?_, ⟨f, hf.kept (hb.block _ hf.lt), hm⟩, h.bel.trans (hb.mono (by omega)), ⟨hb.os.trans h.kp.os, hb.tape.trans h.kp.tape, hb.output.trans h.kp.output, Nat.le_trans hz hb.size, fun k hk hn => (hb.block k (by omega)).trans (h.kp.block k hk hn)⟩, h.ow, h.eb.keep hb h.eb.lt, (hb.block _ h.kb.lt).trans h.kb⟩
  obtain ⟨h1, h2⟩ := h.own
  refine ⟨h1, ?_⟩
  rcases h2 with h2 | ⟨g', cap', cur, e, hb', hg', h3⟩
  · exact .inl h2
  · exact .inr ⟨g', cap', cur, e, hb', (hb.block _ (Array.getElem?_eq_some_iff.1 hg').1).trans hg', h3⟩
theorem Mid.cells {tl lo P M room : Nat} {w0 w W : World} {A : Option Addr} {L : List Tr} {t : Tr} {At : Option Addr} {ct : Nat} {kb : Nat} {cs : List Int} {A2 : Option Addr} {c2 : Nat} (h : Mid tl lo P M room w0 w W A L t At ct kb cs A2 c2) : W.cell? ⟨P, 1, none⟩ = some (.map (some M)) ∧ W.cell? ⟨P, 2, none⟩ = some (.slice A2 (L.length + 1) c2) := by
  have hb := h.box
  simp [World.cell?, hb]
theorem Mid.grown {tl lo P M room : Nat} {w0 w W W' : World} {A : Option Addr} {L : List Tr} {t : Tr} {At : Option Addr} {ct : Nat} {kb : Nat} {cs : List Int} {A2 : Option Addr} {c2 : Nat} (h : Mid tl lo P M room w0 w W A L t At ct kb cs A2 c2) (hg : W.grownBy W' (some M)) : (W'.cell? ⟨P, 1, none⟩ = some (.map (some M)) ∧ W'.cell? ⟨P, 2, none⟩ = some (.slice A2 (L.length + 1) c2)) ∧ BoxN W' kb cs := by
  obtain ⟨f0, hf0, _⟩ := h.mp
  obtain ⟨es, cl, he⟩ := hf0.isMap
  have hPM : some P ≠ some M := fun e => by cases e; rw [h.box] at he; simp at he
  have hkM : some kb ≠ some M := fun e => by cases e; have := h.kb; unfold BoxN at this; rw [this] at he; simp at he
  have hb := (hg.block P (Array.getElem?_eq_some_iff.1 h.box).1 hPM).trans h.box
  exact ⟨by simp [World.cell?, hb], (hg.block _ h.kb.lt hkM).trans h.kb⟩
theorem rowEn_add {L : List Tr} (ho : Ok L) {t : Tr} (hk : ∀ q ∈ t.ks, q ∈ L) : rowEn (L ++ [t]) (L ++ [t]) = rowEn L L ++ rowE1 L t := by
  unfold rowEn
  rw [List.flatMap_append]
  congr 1
  · rw [List.flatMap_def, List.flatMap_def]
    congr 1
    refine List.map_congr_left fun u hu => ?_
    unfold rowE1
    rw [nodeT_append (fun q hq => ho.kid hu hq)]
  · simp only [List.flatMap_cons, List.flatMap_nil, List.append_nil]
    unfold rowE1
    rw [nodeT_append hk]
/-- the number stored: the table is whole again -/
theorem Mid.done {tl lo P M room : Nat} {w0 w W W' : World} {A : Option Addr} {L : List Tr} {t : Tr} {At : Option Addr} {ct : Nat} {kb : Nat} {cs : List Int} {A2 : Option Addr} {c2 : Nat} (h : Mid tl lo P M room w0 w W A L t At ct kb cs A2 c2) (hlo : tl ≤ lo) (ho : Ok L) (hr : rightN t = 0) (hn : t ∉ L) (hk : ∀ q ∈ t.ks, q ∈ L) (hlen : L.length < room) (hrm : room ≤ 20000) (hP : lo ≤ P) (hM : lo ≤ M)
    (f : List Int → Nat) (hf : MapOf L f) (hmp : IsMp W' M (L.length + 1) (fun c => if c = nodeT L t then L.length + 1 else f c)) (hg : W.grownBy W' (some M)) : Aft tl lo P M room w W' A (L ++ [t]) A2 c2 := by
  have h4 := (kind_of_shp t (right_shp' hr).1).2.2.2.2
  obtain ⟨f0, hf0, _⟩ := h.mp
  have hMlt := hf0.lt
  obtain ⟨es, cl, he⟩ := hf0.isMap
  have hPM : some P ≠ some M := fun e => by cases e; rw [h.box] at he; simp at he
  have hPlt : P < W.heap.size := (Array.getElem?_eq_some_iff.1 h.box).1
  have el : (L ++ [t]).length = L.length + 1 := by simp
  refine ⟨⟨?_, ?_, ⟨_, ?_, hf.add ho hn hk h4⟩, ho.add hn hr hk, by rw [el]; omega, hrm, hP, hM⟩, ?_, ?_, h.ow⟩
  · rw [el]; exact (hg.block P hPlt hPM).trans h.box
  · rw [el, rowEn_add ho hk]
    obtain ⟨h1, h2⟩ := h.own
    refine ⟨h1, ?_⟩
    rcases h2 with h2 | ⟨g', cap', cur, e, hb, hg', h3⟩
    · exact .inl h2
    · refine .inr ⟨g', cap', cur, e, hb, (hg.block g' (Array.getElem?_eq_some_iff.1 hg').1 (fun e2 => ?_)).trans hg', h3⟩
      cases e2; rw [hg'] at he; simp at he
  · rw [el]; exact hmp
  · exact h.bel.trans ⟨hg.os, hg.tape, hg.output, hg.size, fun k hk => by
      rcases Nat.lt_or_ge k W.heap.size with h1 | h1
      · exact hg.block k h1 (fun e => by cases e; omega)
      · omega⟩
  · exact ⟨hg.os.trans h.kp.os, hg.tape.trans h.kp.tape, hg.output.trans h.kp.output, Nat.le_trans h.kp.size hg.size, fun k hk hn => (hg.block k (Nat.lt_of_lt_of_le hk h.kp.size) (fun e => hn (.inr (.inl (by cases e; rfl))))).trans (h.kp.block k hk hn)⟩
end Go.Proofs.Ytmmdhlemkcddmaa
