/- A table of trees, each once, as plain mathematics: numbers, nodes, what is added. -/
import Derived.Test.YtjdhmfpkhijkeaaT3
import Derived.Test.YtjdhmfpkhijkeaaT17
namespace Go.Proofs.Ytjdhmfpkhijkeaa
set_option linter.unusedVariables false
set_option linter.unusedSimpArgs false
instance decTr : DecidableEq Tr := fun a b => decidable_of_iff (cmpT a b = 0) (cmpT_zero a b)
theorem right_kid {t q : Tr} (h : rightN t = 0) (hq : q ∈ t.ks) : rightN q = 0 := by
  obtain ⟨h1, h2, h3⟩ := right_shp' h
  have c := shp_kid h1 hq
  obtain ⟨m, hm, rfl⟩ := List.mem_iff_getElem.1 hq
  have a := kid_sz t m hm
  have b := kid_dp t m hm
  unfold rightN
  rw [if_neg (by omega), if_neg (by omega), if_pos c]
/-- the number of a tree in a list; 0: it is not in it -/
def num (L : List Tr) (t : Tr) : Nat := if t ∈ L then L.idxOf t + 1 else 0
theorem num_mem {L : List Tr} {t : Tr} : num L t ≠ 0 ↔ t ∈ L := by unfold num; split <;> simp_all
theorem num_zero {L : List Tr} {t : Tr} : num L t = 0 ↔ t ∉ L := by unfold num; split <;> simp_all
theorem num_le (L : List Tr) (t : Tr) : num L t ≤ L.length := by
  unfold num; split
  · rename_i h; exact List.idxOf_lt_length_of_mem h
  · omega
theorem num_at {L : List Tr} {t : Tr} (h : t ∈ L) : L[num L t - 1]? = some t := by
  unfold num
  rw [if_pos h]
  have := List.idxOf_lt_length_of_mem h
  simp [List.getElem?_eq_getElem this]
theorem num_inj {L : List Tr} {a b : Tr} (ha : a ∈ L) (h : num L a = num L b) : a = b := by
  have hb : b ∈ L := num_mem.1 (h ▸ num_mem.2 ha)
  have h1 := num_at ha
  have h2 := num_at hb
  rw [h, h2] at h1
  simpa using h1.symm
theorem num_append {L : List Tr} {t : Tr} (h : t ∈ L) (r : List Tr) : num (L ++ r) t = num L t := by
  unfold num
  rw [if_pos h, if_pos (List.mem_append_left r h), List.idxOf_append, if_pos h]
theorem num_new {L : List Tr} {t : Tr} (h : t ∉ L) : num (L ++ [t]) t = L.length + 1 := by
  unfold num
  rw [if_pos (by simp), List.idxOf_append, if_neg h]
  simp
theorem num_get {L : List Tr} (hn : L.Nodup) (i : Nat) (h : i < L.length) : num L L[i] = i + 1 := by
  unfold num
  rw [if_pos (List.getElem_mem h)]
  have h1 : L.idxOf L[i] < L.length := List.idxOf_lt_length_of_mem (List.getElem_mem h)
  have h2 : L[L.idxOf L[i]] = L[i] := by simp
  have h3 : L.idxOf L[i] = i := by
    rcases Nat.lt_trichotomy (L.idxOf L[i]) i with h4 | h4 | h4
    · exact absurd h2 ((List.pairwise_iff_getElem.1 hn) _ _ h1 h h4)
    · exact h4
    · exact absurd h2.symm ((List.pairwise_iff_getElem.1 hn) _ _ h h1 h4)
  omega
/-- numbers, and noughts behind -/
def pad4 (l : List Nat) : List Int := l.map (fun n : Nat => (n : Int)) ++ List.replicate (4 - l.length) 0
theorem pad4_len {l : List Nat} (h : l.length ≤ 4) : (pad4 l).length = 4 := by simp [pad4]; omega
theorem pad4_inj : ∀ {a b : List Nat}, a.length ≤ 4 → b.length ≤ 4 → (∀ x ∈ a, x ≠ 0) → (∀ x ∈ b, x ≠ 0) → pad4 a = pad4 b → a = b := by
  have key : ∀ (a b : List Nat) (n m : Nat), a.length + n = b.length + m → (∀ x ∈ a, x ≠ 0) → (∀ x ∈ b, x ≠ 0) → a.map (fun n : Nat => (n : Int)) ++ List.replicate n (0 : Int) = b.map (fun n : Nat => (n : Int)) ++ List.replicate m (0 : Int) → a = b := by
    intro a
    induction a with
    | nil =>
      intro b n m hl ha hb e
      cases b with
      | nil => rfl
      | cons y b =>
        exfalso
        cases n with
        | zero => first | (simp at hl; done) | (simp at hl; omega)
        | succ n =>
          simp [List.replicate_succ] at e
          exact hb y (by simp) (by omega)
    | cons x a ih =>
      intro b n m hl ha hb e
      cases b with
      | nil =>
        exfalso
        cases m with
        | zero => first | (simp at hl; done) | (simp at hl; omega)
        | succ m =>
          simp [List.replicate_succ] at e
          exact ha x (by simp) (by omega)
      | cons y b =>
        simp at e
        have := ih b n m (by simp at hl; omega) (fun z hz => ha z (by simp [hz])) (fun z hz => hb z (by simp [hz])) e.2
        rw [this]
        congr 1
        omega
  intro a b h1 h2 ha hb e
  exact key a b _ _ (by omega) ha hb e
/-- a tree's node, its parts by their numbers -/
def nodeT (L : List Tr) (t : Tr) : List Int := t.k :: t.i :: pad4 (t.ks.map (num L))
theorem nodeT_inj {L : List Tr} {a b : Tr} (ha : ∀ q ∈ a.ks, q ∈ L) (hb : ∀ q ∈ b.ks, q ∈ L) (h4 : a.ks.length ≤ 4) (h5 : b.ks.length ≤ 4) (h : nodeT L a = nodeT L b) : a = b := by
  unfold nodeT at h
  simp only [List.cons.injEq] at h
  obtain ⟨h1, h2, h3⟩ := h
  have e := pad4_inj (by simpa using h4) (by simpa using h5) (by simp only [List.mem_map]; rintro x ⟨q, hq, rfl⟩; exact num_mem.2 (ha q hq)) (by simp only [List.mem_map]; rintro x ⟨q, hq, rfl⟩; exact num_mem.2 (hb q hq)) h3
  have hk : ∀ (l r : List Tr), (∀ q ∈ l, q ∈ L) → l.map (num L) = r.map (num L) → l = r := by
    intro l
    induction l with
    | nil => intro r _ e; cases r with
      | nil => rfl
      | cons _ _ => simp at e
    | cons x l ih =>
      intro r hl e
      cases r with
      | nil => simp at e
      | cons y r =>
        simp at e
        rw [num_inj (hl x (by simp)) e.1, ih r (fun q hq => hl q (by simp [hq])) e.2]
  have h6 := hk a.ks b.ks ha e
  rw [Tr.eta a, Tr.eta b, h1, h2, h6]
theorem nodeT_append {L : List Tr} {t : Tr} (h : ∀ q ∈ t.ks, q ∈ L) (r : List Tr) : nodeT (L ++ r) t = nodeT L t := by
  unfold nodeT
  congr 3
  exact List.map_congr_left fun q hq => num_append (h q hq) r
/-- what holds of every table: each once, its parts ahead, all valid -/
structure Ok (L : List Tr) : Prop where
  nodup : L.Nodup
  kids : ∀ i (h : i < L.length), ∀ q ∈ L[i].ks, q ∈ L.take i
  right : ∀ t ∈ L, rightN t = 0
theorem Ok.nil : Ok [] := ⟨List.nodup_nil, fun i h => by simp at h, fun t h => by simp at h⟩
theorem Ok.kid {L : List Tr} (h : Ok L) {t q : Tr} (ht : t ∈ L) (hq : q ∈ t.ks) : q ∈ L := by
  obtain ⟨i, hi, rfl⟩ := List.mem_iff_getElem.1 ht
  exact List.mem_of_mem_take (h.kids i hi q hq)
theorem Ok.four {L : List Tr} (h : Ok L) {t : Tr} (ht : t ∈ L) : t.ks.length ≤ 4 := (kind_of_shp t (right_shp' (h.right t ht)).1).2.2.2.2
theorem Ok.add {L : List Tr} (h : Ok L) {t : Tr} (hn : t ∉ L) (hr : rightN t = 0) (hk : ∀ q ∈ t.ks, q ∈ L) : Ok (L ++ [t]) := by
  refine ⟨?_, fun i hi q hq => ?_, fun u hu => ?_⟩
  · rw [List.nodup_append]
    exact ⟨h.nodup, by simp, fun a ha b hb e => by simp at hb; subst hb; subst e; exact hn ha⟩
  · rcases Nat.lt_or_ge i L.length with h1 | h1
    · rw [List.getElem_append_left h1] at hq
      have := h.kids i h1 q hq
      rw [List.take_append_of_le_length (by omega)]
      exact this
    · obtain rfl : i = L.length := by simp at hi; omega
      simp at hq
      simp
      exact hk q hq
  · rcases List.mem_append.1 hu with h1 | h1
    · exact h.right u h1
    · simp at h1; rw [h1]; exact hr
theorem Ok.take {L : List Tr} (h : Ok L) (n : Nat) : Ok (L.take n) := by
  refine ⟨(List.take_sublist n L).nodup h.nodup, fun i hi q hq => ?_, fun t ht => h.right t (List.mem_of_mem_take ht)⟩
  simp at hi
  rw [List.getElem_take] at hq
  have := h.kids i (by omega) q hq
  rw [List.take_take, show min i n = i by omega]
  exact this
mutual
/-- what Put makes of a list, and the number (0: there is no room) -/
def addT (room : Nat) : Tr → List Tr → List Tr × Nat
  | .node k i ks, L =>
    if (addK room ks L).2 = false then ((addK room ks L).1, 0)
    else if num (addK room ks L).1 (.node k i ks) ≠ 0 then ((addK room ks L).1, num (addK room ks L).1 (.node k i ks))
    else if (addK room ks L).1.length = room then ((addK room ks L).1, 0)
    else ((addK room ks L).1 ++ [.node k i ks], (addK room ks L).1.length + 1)
def addK (room : Nat) : List Tr → List Tr → List Tr × Bool
  | [], L => (L, true)
  | q :: r, L => if (addT room q L).2 = 0 then ((addT room q L).1, false) else addK room r (addT room q L).1
end
theorem addT_eq (room : Nat) (t : Tr) (L : List Tr) : addT room t L = if (addK room t.ks L).2 = false then ((addK room t.ks L).1, 0)
    else if num (addK room t.ks L).1 t ≠ 0 then ((addK room t.ks L).1, num (addK room t.ks L).1 t)
    else if (addK room t.ks L).1.length = room then ((addK room t.ks L).1, 0)
    else ((addK room t.ks L).1 ++ [t], (addK room t.ks L).1.length + 1) := by
  obtain ⟨k, i, ks⟩ := t
  rw [addT]
  rfl
/-- what is so of a list behind a Put -/
structure Added (room : Nat) (L L' : List Tr) (n z : Nat) : Prop where
  ok : Ok L'
  pre : L <+: L'
  le : L'.length ≤ room
  more : L'.length + (if n = 0 then 1 else 0) ≤ L.length + z
  full : n = 0 → L'.length = room
theorem added : ∀ (t : Tr) (room : Nat) (L : List Tr), Ok L → L.length ≤ room → rightN t = 0 → Added room L (addT room t L).1 (addT room t L).2 t.sz ∧ ((addT room t L).2 ≠ 0 → t ∈ (addT room t L).1 ∧ (addT room t L).2 = num (addT room t L).1 t) := by
  intro t
  induction t using Tr.ind with
  | h t ih =>
    intro room L hL hle hr
    have hkids : ∀ (ks : List Tr) (L : List Tr), (∀ q ∈ ks, q ∈ t.ks) → Ok L → L.length ≤ room → Added room L (addK room ks L).1 (if (addK room ks L).2 = true then 1 else 0) (szL ks) ∧ ((addK room ks L).2 = true → ∀ q ∈ ks, q ∈ (addK room ks L).1) := by
      intro ks
      induction ks with
      | nil => intro L _ h1 h2; simp only [addK]; exact ⟨⟨h1, List.prefix_refl _, h2, by simp [szL], by simp⟩, by simp⟩
      | cons q r ihr =>
        intro L hs h1 h2
        obtain ⟨hq, hq2⟩ := ih q (hs q (by simp)) room L h1 h2 (right_kid hr (hs q (by simp)))
        rw [addK]
        by_cases h0 : (addT room q L).2 = 0
        · rw [if_pos h0]
          refine ⟨⟨hq.ok, hq.pre, hq.le, ?_, fun _ => hq.full h0⟩, by simp⟩
          have := hq.more
          rw [if_pos h0] at this
          simp [szL]
          omega
        · rw [if_neg h0]
          obtain ⟨hr1, hr2⟩ := ihr (addT room q L).1 (fun x hx => hs x (by simp [hx])) hq.ok hq.le
          refine ⟨⟨hr1.ok, hq.pre.trans hr1.pre, hr1.le, ?_, hr1.full⟩, fun ht x hx => ?_⟩
          · have a1 := hq.more
            have a2 := hr1.more
            rw [if_neg h0] at a1
            simp only [szL]
            omega
          · rcases List.mem_cons.1 hx with rfl | hx
            · exact hr1.pre.subset (hq2 h0).1
            · exact hr2 ht x hx
    obtain ⟨hk, hk2⟩ := hkids t.ks L (fun _ h => h) hL hle
    rw [addT_eq]
    have hsz := sz_eq t
    by_cases h0 : (addK room t.ks L).2 = false
    · rw [if_pos h0]
      have a1 := hk.more
      have a2 := hk.full
      simp [h0] at a1 a2
      exact ⟨⟨hk.ok, hk.pre, hk.le, by simp; omega, fun _ => a2⟩, by simp⟩
    · rw [if_neg h0]
      have h0' : (addK room t.ks L).2 = true := by simpa using h0
      have a1 := hk.more
      rw [if_pos h0'] at a1
      simp at a1
      by_cases h1 : num (addK room t.ks L).1 t ≠ 0
      · rw [if_pos h1]
        exact ⟨⟨hk.ok, hk.pre, hk.le, by simp [h1]; omega, fun e => absurd e h1⟩, fun _ => ⟨num_mem.1 h1, rfl⟩⟩
      · rw [if_neg h1]
        have hnot := num_zero.1 (by simpa using h1)
        by_cases h2 : (addK room t.ks L).1.length = room
        · rw [if_pos h2]
          exact ⟨⟨hk.ok, hk.pre, hk.le, by simp; omega, fun _ => h2⟩, by simp⟩
        · rw [if_neg h2]
          have hl := hk.le
          exact ⟨⟨hk.ok.add hnot hr (hk2 h0'), hk.pre.trans (List.prefix_append _ _), by simp; omega, by simp; omega, by simp⟩, fun _ => ⟨by simp, (num_new hnot).symm⟩⟩
theorem addK_mem (room : Nat) : ∀ (ks : List Tr) (L : List Tr), Ok L → L.length ≤ room → (∀ q ∈ ks, rightN q = 0) → (addK room ks L).2 = true → ∀ q ∈ ks, q ∈ (addK room ks L).1 := by
  have pre : ∀ (ks : List Tr) (L : List Tr), Ok L → L.length ≤ room → (∀ q ∈ ks, rightN q = 0) → L <+: (addK room ks L).1 := by
    intro ks
    induction ks with
    | nil => intro L _ _ _; rw [addK]; exact List.prefix_refl _
    | cons q r ih =>
      intro L h1 h2 h3
      obtain ⟨hq, _⟩ := added q room L h1 h2 (h3 q (by simp))
      rw [addK]
      split
      · exact hq.pre
      · exact hq.pre.trans (ih _ hq.ok hq.le (fun x hx => h3 x (by simp [hx])))
  intro ks
  induction ks with
  | nil => intro L _ _ _ _ q hq; simp at hq
  | cons q r ih =>
    intro L h1 h2 h3 ht x hx
    obtain ⟨hq, hq2⟩ := added q room L h1 h2 (h3 q (by simp))
    rw [addK] at ht ⊢
    by_cases h0 : (addT room q L).2 = 0
    · rw [if_pos h0] at ht; cases ht
    · rw [if_neg h0] at ht ⊢
      rcases List.mem_cons.1 hx with rfl | hx
      · exact (pre r _ hq.ok hq.le (fun x hx => h3 x (by simp [hx]))).subset (hq2 h0).1
      · exact ih _ hq.ok hq.le (fun x hx => h3 x (by simp [hx])) ht x hx
/-- f says which number each node has -/
structure MapOf (L : List Tr) (f : List Int → Nat) : Prop where
  at_ : ∀ i (h : i < L.length), f (nodeT L L[i]) = i + 1
  only : ∀ cs, f cs ≠ 0 → ∃ i, ∃ h : i < L.length, cs = nodeT L L[i]
theorem MapOf.nil : MapOf [] (fun _ => 0) := ⟨fun i h => by simp at h, fun cs h => absurd rfl h⟩
theorem MapOf.num {L : List Tr} {f : List Int → Nat} (h : MapOf L f) (ho : Ok L) {t : Tr} (hk : ∀ q ∈ t.ks, q ∈ L) (h4 : t.ks.length ≤ 4) : f (nodeT L t) = num L t := by
  by_cases hm : t ∈ L
  · obtain ⟨i, hi, rfl⟩ := List.mem_iff_getElem.1 hm
    rw [h.at_ i hi, num_get ho.nodup]
  · rw [num_zero.2 hm]
    rcases Nat.eq_zero_or_pos (f (nodeT L t)) with h0 | h0
    · exact h0
    · obtain ⟨i, hi, e⟩ := h.only _ (Nat.ne_of_gt h0)
      have := nodeT_inj hk (fun q hq => ho.kid (List.getElem_mem hi) hq) h4 (ho.four (List.getElem_mem hi)) e
      exact absurd (this ▸ List.getElem_mem hi) hm
theorem MapOf.add {L : List Tr} {f : List Int → Nat} (h : MapOf L f) (ho : Ok L) {t : Tr} (hn : t ∉ L) (hk : ∀ q ∈ t.ks, q ∈ L) (h4 : t.ks.length ≤ 4) : MapOf (L ++ [t]) (fun c => if c = nodeT L t then L.length + 1 else f c) := by
  refine ⟨fun i hi => ?_, fun cs hc => ?_⟩
  · rcases Nat.lt_or_ge i L.length with h1 | h1
    · rw [List.getElem_append_left h1, nodeT_append (fun q hq => ho.kid (List.getElem_mem h1) hq)]
      have hne : nodeT L L[i] ≠ nodeT L t := fun e => hn (nodeT_inj (fun q hq => ho.kid (List.getElem_mem h1) hq) hk (ho.four (List.getElem_mem h1)) h4 e ▸ List.getElem_mem h1)
      simp only [if_neg hne]
      exact h.at_ i h1
    · obtain rfl : i = L.length := by simp at hi; omega
      simp only [List.getElem_concat_length]
      rw [nodeT_append hk, if_pos rfl]
  · by_cases e : cs = nodeT L t
    · refine ⟨L.length, by simp, ?_⟩
      simp only [List.getElem_concat_length]
      rw [nodeT_append hk, e]
    · simp only [if_neg e] at hc
      obtain ⟨i, hi, e2⟩ := h.only cs hc
      refine ⟨i, by simp; omega, ?_⟩
      rw [List.getElem_append_left hi, nodeT_append (fun q hq => ho.kid (List.getElem_mem hi) hq), e2]
/-- the walk over the parts: what the list is behind, their numbers, whether all have one -/
def nodK (nf : Tr → List Tr → Nat) (nx : Tr → List Tr → List Tr) : List Tr → List Tr → List Tr × List Nat × Bool
  | [], L => (L, [], true)
  | q :: r, L => if nf q L = 0 then (nx q L, [], false) else ((nodK nf nx r (nx q L)).1, nf q L :: (nodK nf nx r (nx q L)).2.1, (nodK nf nx r (nx q L)).2.2)
def addN (room : Nat) (t : Tr) (L : List Tr) : Nat := (addT room t L).2
def addX (room : Nat) (t : Tr) (L : List Tr) : List Tr := (addT room t L).1
theorem nodK_add (room : Nat) : ∀ (ks : List Tr) (L : List Tr), Ok L → L.length ≤ room → (∀ q ∈ ks, rightN q = 0) →
    (nodK (addN room) (addX room) ks L).1 = (addK room ks L).1 ∧ (nodK (addN room) (addX room) ks L).2.2 = (addK room ks L).2 ∧ ((addK room ks L).2 = true → (nodK (addN room) (addX room) ks L).2.1 = ks.map (num (addK room ks L).1)) ∧ Ok (addK room ks L).1 ∧ (addK room ks L).1.length ≤ room ∧ L <+: (addK room ks L).1 := by
  intro ks
  induction ks with
  | nil => intro L h1 h2 _; simp only [nodK, addK]; exact ⟨trivial, trivial, fun _ => rfl, h1, h2, List.prefix_refl _⟩
  | cons q r ih =>
    intro L h1 h2 h3
    obtain ⟨hq, hq2⟩ := added q room L h1 h2 (h3 q (by simp))
    obtain ⟨i1, i2, i3, i4, i5, i6⟩ := ih (addT room q L).1 hq.ok hq.le (fun x hx => h3 x (by simp [hx]))
    rw [nodK, addK]
    by_cases h0 : (addT room q L).2 = 0
    · have h0' : addN room q L = 0 := h0
      rw [if_pos h0', if_pos h0]
      exact ⟨rfl, rfl, by simp, hq.ok, hq.le, hq.pre⟩
    · have h0' : ¬ addN room q L = 0 := h0
      rw [if_neg h0', if_neg h0]
      refine ⟨i1, i2, fun ht => ?_, i4, i5, hq.pre.trans i6⟩
      obtain ⟨r', hr'⟩ := i6
      have e := i3 ht
      simp only [List.map_cons]
      show (addT room q L).2 :: (nodK (addN room) (addX room) r (addT room q L).1).2.1 = _
      rw [e, (hq2 h0).2]
      congr 1
      rw [← hr', num_append (hq2 h0).1]
theorem nodK_find : ∀ (ks : List Tr) (L : List Tr), (nodK (fun q L => num L q) (fun _ L => L) ks L).1 = L ∧ ((nodK (fun q L => num L q) (fun _ L => L) ks L).2.2 = true ↔ ∀ q ∈ ks, q ∈ L) ∧ ((nodK (fun q L => num L q) (fun _ L => L) ks L).2.2 = true → (nodK (fun q L => num L q) (fun _ L => L) ks L).2.1 = ks.map (num L)) := by
  intro ks
  induction ks with
  | nil => intro L; simp [nodK]
  | cons q r ih =>
    intro L
    obtain ⟨i1, i2, i3⟩ := ih L
    rw [nodK]
    by_cases h0 : num L q = 0
    · simp only [h0, if_true]
      refine ⟨trivial, ?_, by simp⟩
      have := num_zero.1 h0
      simp [this]
    · simp only [if_neg h0]
      refine ⟨i1, ?_, fun ht => by rw [i3 ht]; rfl⟩
      rw [i2]
      have := num_mem.1 h0
      simp [this]
/-- the numbers found so far, and those of the rest -/
def preK (ns : List Nat) (x : List Tr × List Nat × Bool) : List Tr × List Nat × Bool := (x.1, if x.2.2 = true then ns ++ x.2.1 else [], x.2.2)
end Go.Proofs.Ytjdhmfpkhijkeaa
