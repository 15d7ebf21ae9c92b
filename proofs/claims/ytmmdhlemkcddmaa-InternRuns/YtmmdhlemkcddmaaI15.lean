/- removeAfter of package intern: the table as mathematics and in memory. -/
import Derived.Test.YtmmdhlemkcddmaaI8
import Derived.Test.YtmmdhlemkcddmaaI7
namespace Go.Proofs.Ytmmdhlemkcddmaa
open Go.RowKit
set_option linter.unusedVariables false
set_option linter.unusedSimpArgs false
/-- the numbers behind m entries from n on are struck -/
structure PartOf (L : List Tr) (n m : Nat) (f : List Int → Nat) : Prop where
  at_ : ∀ i (h : i < L.length), i < n ∨ n + m ≤ i → f (nodeT L L[i]) = i + 1
  only : ∀ cs, f cs ≠ 0 → ∃ i, ∃ h : i < L.length, (i < n ∨ n + m ≤ i) ∧ cs = nodeT L L[i]
theorem PartOf.start {L : List Tr} {f : List Int → Nat} (h : MapOf L f) (n : Nat) : PartOf L n 0 f :=
  ⟨fun i hi _ => h.at_ i hi, fun cs hc => by obtain ⟨i, hi, e⟩ := h.only cs hc; exact ⟨i, hi, by omega, e⟩⟩
theorem node_ne {L : List Tr} (ho : Ok L) {i j : Nat} (hi : i < L.length) (hj : j < L.length) (h : i ≠ j) : nodeT L L[i] ≠ nodeT L L[j] := fun e => by
  have e2 := nodeT_inj (fun q hq => ho.kid (List.getElem_mem hi) hq) (fun q hq => ho.kid (List.getElem_mem hj) hq) (ho.four (List.getElem_mem hi)) (ho.four (List.getElem_mem hj)) e
  have a := num_get ho.nodup i hi
  have b := num_get ho.nodup j hj
  rw [e2] at a
  omega
theorem PartOf.step {L : List Tr} {n m : Nat} {f : List Int → Nat} (h : PartOf L n m f) (ho : Ok L) (hm : n + m < L.length) : PartOf L n (m + 1) (fun c => if c = nodeT L L[n + m] then 0 else f c) := by
  refine ⟨fun i hi hh => ?_, fun cs hc => ?_⟩
  · simp only [if_neg (node_ne ho hi hm (by omega))]
    exact h.at_ i hi (by omega)
  · by_cases e : cs = nodeT L L[n + m]
    · simp only [if_pos e] at hc; exact absurd rfl hc
    · simp only [if_neg e] at hc
      obtain ⟨i, hi, h1, h2⟩ := h.only cs hc
      refine ⟨i, hi, ?_, h2⟩
      by_cases e2 : i = n + m
      · subst e2; exact absurd h2 e
      · omega
theorem take_kid {L : List Tr} (ho : Ok L) {n i : Nat} (hi : i < L.length) (hn : i < n) : ∀ q ∈ L[i].ks, q ∈ L.take n := fun q hq => by
  have := ho.kids i hi q hq
  exact (List.take_subset_take_left L (by omega)) this
theorem node_take {L : List Tr} (ho : Ok L) {n i : Nat} (hi : i < L.length) (hn : i < n) : nodeT (L.take n) L[i] = nodeT L L[i] := by
  have := nodeT_append (L := L.take n) (t := L[i]) (take_kid ho hi hn) (L.drop n)
  rw [List.take_append_drop] at this
  exact this.symm
theorem PartOf.done {L : List Tr} {n m : Nat} {f : List Int → Nat} (h : PartOf L n m f) (ho : Ok L) (hn : n ≤ L.length) (hm : n + m = L.length) : MapOf (L.take n) f := by
  refine ⟨fun i hi => ?_, fun cs hc => ?_⟩
  · simp at hi
    rw [List.getElem_take, node_take ho (by omega) (by omega)]
    exact h.at_ i (by omega) (by omega)
  · obtain ⟨i, hi, h1, h2⟩ := h.only cs hc
    have hin : i < n := by omega
    refine ⟨i, by simp; omega, ?_⟩
    rw [List.getElem_take, node_take ho hi hin, h2]
theorem rowEn_take {L : List Tr} (ho : Ok L) {n : Nat} (hn : n ≤ L.length) : rowEn (L.take n) (L.take n) = (rowEn L L).take (n * 8) := by
  have e1 : rowEn L L = rowEn L (L.take n) ++ rowEn L (L.drop n) := by
    unfold rowEn
    rw [← List.flatMap_append, List.take_append_drop]
  have len : ∀ (M : List Tr), (∀ t ∈ M, t.ks.length ≤ 4) → (rowEn L M).length = M.length * 8 := by
    intro M
    induction M with
    | nil => intro _; rfl
    | cons t r ih =>
      intro h
      unfold rowEn at ih ⊢
      rw [List.flatMap_cons, List.length_append, ih (fun u hu => h u (by simp [hu])), rowE1_len (h t (by simp)), List.length_cons]
      omega
  have l1 := len (L.take n) (fun t ht => ho.four (List.mem_of_mem_take ht))
  have l2 : (L.take n).length = n := by simp; omega
  rw [e1, List.take_left' (by rw [l1, l2])]
  unfold rowEn
  rw [List.flatMap_def, List.flatMap_def]
  congr 1
  refine List.map_congr_left fun u hu => ?_
  obtain ⟨i, hi, rfl⟩ := List.mem_iff_getElem.1 hu
  simp at hi
  unfold rowE1
  rw [List.getElem_take, node_take ho (by omega) (by omega)]
/-- the state of removeAfter's loop -/
structure RemS (tl lo P M room : Nat) (w wx : World) (L : List Tr) (A : Option Addr) (c n m : Nat) : Prop where
  box : wx.heap[P]? = some (.cells #[.int .i64 (room : Int), .map (some M), .slice A L.length c] 75 (0, 0))
  own : wx.ownsRow lo 116 8 (.slice A L.length c) L.length (rowEn L L)
  mp : ∃ f, IsMp wx M (L.length - m) f ∧ PartOf L n m f
  bel : Below tl w wx
  kp : Kp w wx (TB P M A)
theorem RemS.start {tl lo P M room : Nat} {w : World} {L : List Tr} {A : Option Addr} {c : Nat} (h : Tab w lo P M room L A c) (n : Nat) : RemS tl lo P M room w w L A c n 0 := by
  obtain ⟨f, hf, hm⟩ := h.mp
  exact ⟨h.box, h.own, ⟨f, hf, PartOf.start hm n⟩, Below.refl _ _, ⟨rfl, rfl, rfl, Nat.le_refl _, fun _ _ _ => rfl⟩⟩
theorem RemS.keep {tl lo P M room : Nat} {w wx wy : World} {L : List Tr} {A : Option Addr} {c n m : Nat} (h : RemS tl lo P M room w wx L A c n m) (hb : Below wx.heap.size wx wy) (htl : tl ≤ w.heap.size) : RemS tl lo P M room w wy L A c n m := by
  obtain ⟨f, hf, hm⟩ := h.mp
  have hz := h.kp.size
  refine ⟨(hb.block _ (Array.getElem?_eq_some_iff.1 h.box).1).trans h.box, ?_, ⟨f, hf.kept (hb.block _ hf.lt), hm⟩, h.bel.trans (hb.mono (by omega)), ⟨hb.os.trans h.kp.os, hb.tape.trans h.kp.tape, hb.output.trans h.kp.output, Nat.le_trans hz hb.size, fun k hk hn => (hb.block k (by omega)).trans (h.kp.block k hk hn)⟩⟩
  obtain ⟨h1, h2⟩ := h.own
  refine ⟨h1, ?_⟩
  rcases h2 with h2 | ⟨g', cap', cur, e, hb', hg', h3⟩
  · exact .inl h2
  · exact .inr ⟨g', cap', cur, e, hb', (hb.block _ (Array.getElem?_eq_some_iff.1 hg').1).trans hg', h3⟩
/-- one number more is struck -/
theorem RemS.del {tl lo P M room : Nat} {w wx wy : World} {L : List Tr} {A : Option Addr} {c n m : Nat} {f : List Int → Nat} (h : RemS tl lo P M room w wx L A c n m) (ho : Ok L) (htl : tl ≤ lo) (hM : lo ≤ M) (hlt : n + m < L.length) (hp : PartOf L n m f) (hi : IsMp wy M (L.length - m - 1) (fun c => if c = nodeT L L[n + m] then 0 else f c)) (hg : wx.grownBy wy (some M)) : RemS tl lo P M room w wy L A c n (m + 1) := by
  obtain ⟨f0, hf0, _⟩ := h.mp
  obtain ⟨es, cl, he⟩ := hf0.isMap
  have hMlt := hf0.lt
  have hPM : some P ≠ some M := fun e => by cases e; rw [h.box] at he; simp at he
  refine ⟨(hg.block P (Array.getElem?_eq_some_iff.1 h.box).1 hPM).trans h.box, ?_, ⟨_, by rw [show L.length - (m + 1) = L.length - m - 1 by omega]; exact hi, hp.step ho hlt⟩, ?_, ⟨hg.os.trans h.kp.os, hg.tape.trans h.kp.tape, hg.output.trans h.kp.output, Nat.le_trans h.kp.size hg.size, fun k hk hn => (hg.block k (Nat.lt_of_lt_of_le hk h.kp.size) (fun e => hn (.inr (.inl (by cases e; rfl))))).trans (h.kp.block k hk hn)⟩⟩
  · obtain ⟨h1, h2⟩ := h.own
    refine ⟨h1, ?_⟩
    rcases h2 with h2 | ⟨g', cap', cur, e, hb', hg', h3⟩
    · exact .inl h2
    · refine .inr ⟨g', cap', cur, e, hb', (hg.block g' (Array.getElem?_eq_some_iff.1 hg').1 (fun e2 => ?_)).trans hg', h3⟩
      cases e2; rw [hg'] at he; simp at he
  · exact h.bel.trans ⟨hg.os, hg.tape, hg.output, hg.size, fun k hk => by
      rcases Nat.lt_or_ge k wx.heap.size with h1 | h1
      · exact hg.block k h1 (fun e => by cases e; omega)
      · omega⟩
/-- the row cut: the table of the first n -/
theorem RemS.cut {tl lo P M room : Nat} {w wx : World} {L : List Tr} {A : Option Addr} {c n m : Nat} (h : RemS tl lo P M room w wx L A c n m) (ho : Ok L) (hle : L.length ≤ room) (hrm : room ≤ 20000) (hP : lo ≤ P) (hM : lo ≤ M) (htl : tl ≤ lo) (hn : n ≤ L.length) (hm : n + m = L.length) :
    Aft tl lo P M room w (wx.setCell ⟨P, 2, none⟩ (.slice A n c)) A (L.take n) A c := by
  obtain ⟨f, hf, hp⟩ := h.mp
  obtain ⟨es, cl, he⟩ := hf.isMap
  have hPM : P ≠ M := fun e => by rw [← e, h.box] at he; simp at he
  have el : (L.take n).length = n := by simp; omega
  refine ⟨⟨?_, ?_, ⟨f, ?_, hp.done ho hn hm⟩, ho.take n, by rw [el]; omega, hrm, hP, hM⟩, h.bel.setCell (by show tl ≤ P; omega) _, ⟨h.kp.os, h.kp.tape, h.kp.output, by have := h.kp.size; simpa [World.setCell] using this, fun k hk hn' => (heap_setCell_other _ _ _ _ (fun e => hn' (.inl e))).trans (h.kp.block k hk hn')⟩, .inl rfl⟩
  · rw [el, heap_setCell_same _ _ _ _ _ _ h.box]; rfl
  · rw [el, rowEn_take ho hn]
    obtain ⟨h1, h2⟩ := h.own
    refine ⟨by rw [List.length_take, h1]; omega, ?_⟩
    rcases h2 with ⟨e, h0⟩ | ⟨g', cap', cur, e, hb', hg', hc1, hc2, hc3, hc4⟩
    · left
      have : n = 0 := by omega
      subst this
      simp at e
      exact ⟨by simp [e], rfl⟩
    · right
      cases e
      refine ⟨g', c, cur, rfl, hb', ?_, by omega, hc2, hc3, ?_⟩
      · exact (heap_setCell_other _ _ _ _ (fun e => by have e' : g' = P := e; rw [e', h.box] at hg'; simp at hg')).trans hg'
      · rw [← hc4, List.take_take, Nat.min_eq_left (Nat.mul_le_mul_right 8 hn)]
  · rw [el]
    have := hf.kept (w' := wx.setCell ⟨P, 2, none⟩ (.slice A n c)) (heap_setCell_other _ _ _ _ (by show M ≠ P; exact hPM.symm))
    rw [show L.length - m = n by omega] at this
    exact this
end Go.Proofs.Ytmmdhlemkcddmaa
