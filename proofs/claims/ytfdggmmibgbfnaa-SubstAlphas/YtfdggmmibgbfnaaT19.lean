/- Trees that are alike but for the names of what is bound: by the places of the quantifiers, and by what the names stand for: plain mathematics. -/
import Derived.Test.YtfdggmmibgbfnaaT17
namespace Go.Proofs.Ytfdggmmibgbfnaa
set_option linter.unusedVariables false
set_option linter.unusedSimpArgs false
/-- where a number stands last in a list; -1: nowhere -/
def placeI (l : List Int) (x : Int) : Int := l.foldl (fun (s : Int × Int) y => (if y = x then s.2 else s.1, s.2 + 1)) ((-1 : Int), (0 : Int)) |>.1
theorem placeI_pair (x : Int) : ∀ (l : List Int) (p n : Int), (l.foldl (fun (s : Int × Int) y => (if y = x then s.2 else s.1, s.2 + 1)) (p, n)).2 = n + l.length := by
  intro l
  induction l with
  | nil => intro p n; simp
  | cons y l ih => intro p n; rw [List.foldl_cons, ih]; simp; omega
theorem placeI_nil (x : Int) : placeI [] x = -1 := rfl
theorem placeI_snoc (l : List Int) (y x : Int) : placeI (l ++ [y]) x = if y = x then (l.length : Int) else placeI l x := by
  unfold placeI
  rw [List.foldl_append, List.foldl_cons, List.foldl_nil]
  simp only [placeI_pair]
  split
  · omega
  · rfl
theorem placeI_range (x : Int) : ∀ (l : List Int) (p n : Int), -1 ≤ p → p < n → 0 ≤ n → -1 ≤ (l.foldl (fun (s : Int × Int) y => (if y = x then s.2 else s.1, s.2 + 1)) (p, n)).1 ∧ (l.foldl (fun (s : Int × Int) y => (if y = x then s.2 else s.1, s.2 + 1)) (p, n)).1 < n + l.length := by
  intro l
  induction l with
  | nil => intro p n h1 h2 h3; simp; omega
  | cons y l ih =>
    intro p n h1 h2 h3
    rw [List.foldl_cons]
    have := ih (if y = x then n else p) (n + 1) (by split <;> omega) (by split <;> omega) (by omega)
    simp only [List.length_cons] at *
    omega
theorem placeI_le (l : List Int) (x : Int) : -1 ≤ placeI l x ∧ placeI l x < l.length := by
  have := placeI_range x l (-1) 0 (by omega) (by omega) (by omega)
  unfold placeI
  omega
/-- are two occurrences bound by the same quantifier, or free and the same? -/
def sameOcc (xs ys : List Int) (i j : Int) : Bool := decide (placeI xs i = placeI ys j) && (decide (0 ≤ placeI xs i) || decide (i = j))
mutual
/-- as the document says it -/
def alikeT : Tr → Tr → List Int → List Int → Bool
  | .node k i ks, b, xs, ys => decide (k = b.k) && (decide (ks.length = b.ks.length) &&
    (if k = 1 then sameOcc xs ys i b.i else if k = 7 ∨ k = 10 then alikeL ks b.ks (xs ++ [i]) (ys ++ [b.i]) else decide (i = b.i) && alikeL ks b.ks xs ys))
def alikeL : List Tr → List Tr → List Int → List Int → Bool
  | [], _, _, _ => true
  | _ :: _, [], _, _ => true
  | a :: r, b :: s, xs, ys => alikeT a b xs ys && alikeL r s xs ys
end
theorem alikeT_eq (a b : Tr) (xs ys : List Int) : alikeT a b xs ys = (decide (a.k = b.k) && (decide (a.ks.length = b.ks.length) &&
    (if a.k = 1 then sameOcc xs ys a.i b.i else if a.k = 7 ∨ a.k = 10 then alikeL a.ks b.ks (xs ++ [a.i]) (ys ++ [b.i]) else decide (a.i = b.i) && alikeL a.ks b.ks xs ys))) := by cases a; rw [alikeT]; rfl
theorem alikeL_take (r s : List Tr) (xs ys : List Int) : ∀ m (h : m < r.length) (h' : m < s.length), alikeL (r.take (m + 1)) (s.take (m + 1)) xs ys = (alikeL (r.take m) (s.take m) xs ys && alikeT r[m] s[m] xs ys) := by
  induction r generalizing s with
  | nil => intro m h; simp at h
  | cons a r ih =>
    intro m h h'
    cases s with
    | nil => simp at h'
    | cons b s =>
      cases m with
      | zero => simp [alikeL]
      | succ m =>
        have := ih s m (by simpa using h) (by simpa using h')
        simp only [List.take_succ_cons, alikeL, List.getElem_cons_succ, this, Bool.and_assoc]
theorem alikeL_false (r s : List Tr) (xs ys : List Int) (hl : r.length = s.length) (m : Nat) (h : alikeL (r.take m) (s.take m) xs ys = false) : alikeL r s xs ys = false := by
  induction r generalizing s m with
  | nil => simp [alikeL] at h
  | cons a r ih =>
    cases s with
    | nil => simp at hl
    | cons b s =>
      cases m with
      | zero => simp [alikeL] at h
      | succ m =>
        simp only [List.take_succ_cons, alikeL, Bool.and_eq_false_iff] at h ⊢
        rcases h with h | h
        · exact .inl h
        · exact .inr (ih s (by simpa using hl) m h)
/-! ### what names stand for -/
def setF (f : Int → Int) (i v : Int) : Int → Int := fun j => if j = i then v else f j
mutual
/-- as the code says it: what each name stands for, the node's depth -/
def eqvT : Tr → Tr → Int → (Int → Int) → (Int → Int) → Bool
  | .node k i ks, b, d, f, g => decide (k = b.k) && (decide (ks.length = b.ks.length) &&
    ((if k = 1 then decide (f i = g b.i) else if k = 7 ∨ k = 10 then true else decide (i = b.i)) &&
      (if k = 7 ∨ k = 10 then eqvL ks b.ks (d + 1) (setF f i (63 + d)) (setF g b.i (63 + d)) else eqvL ks b.ks (d + 1) f g)))
def eqvL : List Tr → List Tr → Int → (Int → Int) → (Int → Int) → Bool
  | [], _, _, _, _ => true
  | _ :: _, [], _, _, _ => true
  | a :: r, b :: s, d, f, g => eqvT a b d f g && eqvL r s d f g
end
theorem eqvT_eq (a b : Tr) (d : Int) (f g : Int → Int) : eqvT a b d f g = (decide (a.k = b.k) && (decide (a.ks.length = b.ks.length) &&
    ((if a.k = 1 then decide (f a.i = g b.i) else if a.k = 7 ∨ a.k = 10 then true else decide (a.i = b.i)) &&
      (if a.k = 7 ∨ a.k = 10 then eqvL a.ks b.ks (d + 1) (setF f a.i (63 + d)) (setF g b.i (63 + d)) else eqvL a.ks b.ks (d + 1) f g)))) := by cases a; rw [eqvT]; rfl
/-- names that stand for what the quantifiers around name: ds are the depths of these -/
structure Stands (xs : List Int) (ds : List Int) (d : Int) (f : Int → Int) : Prop where
  len : ds.length = xs.length
  free : ∀ i, 0 ≤ i → i ≤ 63 → placeI xs i = -1 → f i = i
  bound : ∀ i (p : Nat) (h : p < ds.length), 0 ≤ i → i ≤ 63 → placeI xs i = (p : Int) → f i = 63 + ds[p]
  pos : ∀ p (h : p < ds.length), 0 < ds[p] ∧ ds[p] < d
  inj : ∀ p q (hp : p < ds.length) (hq : q < ds.length), ds[p] = ds[q] → p = q
theorem Stands.start {d : Int} : Stands [] [] d id := ⟨rfl, fun _ _ _ _ => rfl, fun _ p h => by simp at h, fun p h => by simp at h, fun p q h => by simp at h⟩
theorem Stands.deeper {xs ds : List Int} {d : Int} {f : Int → Int} (h : Stands xs ds d f) : Stands xs ds (d + 1) f := ⟨h.len, h.free, h.bound, fun p hp => by have := h.pos p hp; omega, h.inj⟩
theorem Stands.push {xs ds : List Int} {d : Int} {f : Int → Int} (h : Stands xs ds d f) (hd : 0 < d) (x : Int) : Stands (xs ++ [x]) (ds ++ [d]) (d + 1) (setF f x (63 + d)) := by
  have hl := h.len
  refine ⟨by simp [hl], fun i h0 h1 hp => ?_, fun i p hp h0 h1 he => ?_, fun p hp => ?_, fun p q hp hq e => ?_⟩
  · rw [placeI_snoc] at hp
    unfold setF
    by_cases hx : x = i
    · rw [if_pos hx] at hp; omega
    · rw [if_neg hx] at hp
      rw [if_neg (fun e => hx e.symm)]
      exact h.free i h0 h1 hp
  · rw [placeI_snoc] at he
    unfold setF
    by_cases hx : x = i
    · rw [if_pos hx] at he
      rw [if_pos hx.symm]
      obtain rfl : p = ds.length := by omega
      simp
    · rw [if_neg hx] at he
      rw [if_neg (fun e => hx e.symm)]
      have hb := (placeI_le xs i).2
      have hp' : p < ds.length := by omega
      rw [List.getElem_append_left hp']
      exact h.bound i p hp' h0 h1 he
  · simp only [List.length_append, List.length_singleton] at hp
    rcases Nat.lt_or_ge p ds.length with h1 | h1
    · rw [List.getElem_append_left h1]
      have := h.pos p h1
      omega
    · obtain rfl : p = ds.length := by omega
      simp
      omega
  · simp only [List.length_append, List.length_singleton] at hp hq
    rcases Nat.lt_or_ge p ds.length with h1 | h1 <;> rcases Nat.lt_or_ge q ds.length with h2 | h2
    · rw [List.getElem_append_left h1, List.getElem_append_left h2] at e
      exact h.inj p q h1 h2 e
    · rw [List.getElem_append_left h1, List.getElem_append_right h2] at e
      have := h.pos p h1
      simp at e
      omega
    · rw [List.getElem_append_right h1, List.getElem_append_left h2] at e
      have := h.pos q h2
      simp at e
      omega
    · omega
theorem stands_same {xs ys ds : List Int} {d : Int} {f g : Int → Int} (hf : Stands xs ds d f) (hg : Stands ys ds d g) {i j : Int} (i0 : 0 ≤ i) (i1 : i ≤ 63) (j0 : 0 ≤ j) (j1 : j ≤ 63) : decide (f i = g j) = sameOcc xs ys i j := by
  have hx := placeI_le xs i
  have hy := placeI_le ys j
  have lx := hf.len
  have ly := hg.len
  unfold sameOcc
  by_cases h1 : placeI xs i = -1
  · have e1 := hf.free i i0 i1 h1
    by_cases h2 : placeI ys j = -1
    · have e2 := hg.free j j0 j1 h2
      rw [e1, e2, h1, h2]
      simp
    · obtain ⟨q, hq⟩ : ∃ q : Nat, placeI ys j = (q : Int) := ⟨(placeI ys j).toNat, by omega⟩
      have e2 := hg.bound j q (by omega) j0 j1 hq
      have := hg.pos q (by omega)
      rw [e1, e2, h1, decide_eq_false (show ¬ i = 63 + ds[q] by omega), decide_eq_false (show ¬ (-1 : Int) = placeI ys j by omega)]
      rfl
  · obtain ⟨p, hp⟩ : ∃ p : Nat, placeI xs i = (p : Int) := ⟨(placeI xs i).toNat, by omega⟩
    have e1 := hf.bound i p (by omega) i0 i1 hp
    have p1 := hf.pos p (by omega)
    by_cases h2 : placeI ys j = -1
    · have e2 := hg.free j j0 j1 h2
      rw [e1, e2, decide_eq_false (show ¬ 63 + ds[p] = j by omega), decide_eq_false (show ¬ placeI xs i = placeI ys j by omega)]
      rfl
    · obtain ⟨q, hq⟩ : ∃ q : Nat, placeI ys j = (q : Int) := ⟨(placeI ys j).toNat, by omega⟩
      have e2 := hg.bound j q (by omega) j0 j1 hq
      rw [e1, e2, hp, hq]
      by_cases hpq : p = q
      · subst hpq
        simp
      · have : ¬ ds[p]'(by omega) = ds[q]'(by omega) := fun e => hpq (hf.inj p q (by omega) (by omega) e)
        rw [decide_eq_false (show ¬ 63 + ds[p]'(by omega) = 63 + ds[q]'(by omega) by omega), decide_eq_false (show ¬ (p : Int) = (q : Int) by omega)]
        rfl
/-- the two ways say the same -/
theorem eqv_alike (a : Tr) : ∀ (b : Tr) (xs ys ds : List Int) (d : Int) (f g : Int → Int), a.shp = true → b.shp = true → 0 < d → Stands xs ds d f → Stands ys ds d g → eqvT a b d f g = alikeT a b xs ys := by
  induction a using Tr.ind with
  | h a ih =>
    intro b xs ys ds d f g ha hb hd hf hg
    have hl : ∀ (r s : List Tr) (xs ys ds : List Int) (f g : Int → Int), (∀ q ∈ r, q ∈ a.ks) → (∀ q ∈ s, q.shp = true) → Stands xs ds (d + 1) f → Stands ys ds (d + 1) g → eqvL r s (d + 1) f g = alikeL r s xs ys := by
      intro r
      induction r with
      | nil => intro s xs ys ds f g _ _ _ _; simp [eqvL, alikeL]
      | cons x r ihr =>
        intro s xs ys ds f g hm hs hf hg
        cases s with
        | nil => simp [eqvL, alikeL]
        | cons y s =>
          simp only [eqvL, alikeL]
          rw [ih x (hm x (by simp)) y xs ys ds (d + 1) f g (shp_kid ha (hm x (by simp))) (hs y (by simp)) (by omega) hf hg, ihr s xs ys ds f g (fun q hq => hm q (by simp [hq])) (fun q hq => hs q (by simp [hq])) hf hg]
    rw [eqvT_eq, alikeT_eq]
    by_cases hk : a.k = b.k
    · by_cases hn : a.ks.length = b.ks.length
      · rw [decide_eq_true hk, decide_eq_true hn]
        simp only [Bool.true_and]
        by_cases h1 : a.k = 1
        · obtain ⟨e1, i0, i1⟩ := shp_varT ha h1
          obtain ⟨e2, j0, j1⟩ := shp_varT hb (by rw [← hk]; exact h1)
          rw [if_pos h1, if_pos h1, if_neg (show ¬ (a.k = 7 ∨ a.k = 10) by omega), e1, stands_same hf hg i0 i1 j0 j1]
          simp [eqvL]
        · rw [if_neg h1, if_neg h1]
          by_cases hq : a.k = 7 ∨ a.k = 10
          · rw [if_pos hq, if_pos hq, if_pos hq]
            simp only [Bool.true_and]
            exact hl a.ks b.ks _ _ _ _ _ (fun q h => h) (fun q h => shp_kid hb h) (hf.push hd a.i) (hg.push hd b.i)
          · rw [if_neg hq, if_neg hq, if_neg hq]
            rw [hl a.ks b.ks _ _ _ _ _ (fun q h => h) (fun q h => shp_kid hb h) hf.deeper hg.deeper]
      · rw [decide_eq_false hn]; simp
    · rw [decide_eq_false hk]; simp
theorem eqv_alike0 {a b : Tr} (ha : a.shp = true) (hb : b.shp = true) : eqvT a b 1 id id = alikeT a b [] [] := eqv_alike a b [] [] [] 1 id id ha hb (by omega) Stands.start Stands.start
end Go.Proofs.Ytfdggmmibgbfnaa
