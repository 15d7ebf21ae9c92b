/- What follows of putting a term in: free variables, back again, the substitution lemma: plain mathematics. -/
import Derived.Test.YtgnfbhemkombaaaGreatT17
namespace Go.Proofs.YtgnfbhemkombaaaGreat
set_option linter.unusedVariables false
set_option linter.unusedSimpArgs false
abbrev varT (x : Int) : Tr := .node 1 x []
theorem freeT_node (k i : Int) (ks : List Tr) : freeT (.node k i ks) = if k = 1 then withN 0 i else if k = 7 ∨ k = 10 then withoutN (freeL ks) i else freeL ks := by rw [freeT]
theorem boundT_node (k i : Int) (ks : List Tr) : boundT (.node k i ks) = (if k = 7 ∨ k = 10 then withN 0 i else 0) ||| boundL ks := by rw [boundT]
theorem catT_node (own : Nat) (x : Int) (k i : Int) (ks : List Tr) : catT own x (.node k i ks) = if hasN (freeT (.node k i ks)) x then (if (k = 7 ∨ k = 10) ∧ hasN own i = true then withN 0 i else 0) ||| catL own x ks else 0 := by rw [catT]
theorem putX_self {x : Int} (h0 : 0 ≤ x) (h1 : x ≤ 63) (a : Tr) : a.shp = true → putX x (varT x) a = a := by
  induction a using Tr.ind with
  | h a ih =>
    intro hs
    by_cases hv : a.k = 1 ∧ a.i = x
    · rw [putX_var hv.1 hv.2]
      rw [Tr.eta a, (shp_varT hs hv.1).1, hv.1, hv.2]
    · by_cases hq : (a.k = 7 ∨ a.k = 10) ∧ a.i = x
      · exact putX_quant h0 h1 hq.1 hq.2
      · rw [putX_else hv hq, map_same fun q hq => ih q hq (shp_kid hs hq)]
        exact (Tr.eta a).symm
theorem freeL_has {ks : List Tr} {x : Int} (h : hasN (freeL ks) x = false) : ∀ q ∈ ks, hasN (freeT q) x = false := by
  induction ks with
  | nil => simp
  | cons t r ih =>
    rw [freeL_cons] at h
    unfold hasN at h
    have h' : hasN (freeT t) x = false ∧ hasN (freeL r) x = false := by
      unfold hasN
      rw [Nat.testBit_or] at h
      constructor <;> (revert h; cases decide (0 ≤ x) <;> cases decide (x ≤ 63) <;> cases (freeT t).testBit x.toNat <;> cases (freeL r).testBit x.toNat <;> simp)
    intro q hq
    rcases List.mem_cons.1 hq with rfl | hq
    · exact h'.1
    · exact ih h'.2 q hq
/-- a kid of a node that does not name x: x is free there only if it is free in the whole -/
theorem free_kid {a : Tr} {x : Int} (h0 : 0 ≤ x) (h1 : x ≤ 63) (hs : a.shp = true) (hq : ¬ ((a.k = 7 ∨ a.k = 10) ∧ a.i = x)) (h : hasN (freeT a) x = false) : ∀ q ∈ a.ks, hasN (freeT q) x = false := by
  rw [freeT_eq] at h
  by_cases hv : a.k = 1
  · rw [(shp_varT hs hv).1]; simp
  · rw [if_neg hv] at h
    by_cases hk : a.k = 7 ∨ a.k = 10
    · rw [if_pos hk, hasN_bit h0 h1, tb_without _ _ _ (freeL_U _)] at h
      have e : inI a.i x.toNat = false := by
        cases hi : inI a.i x.toNat with
        | false => rfl
        | true => obtain ⟨e, _⟩ := inI_eq hi; exact absurd ⟨hk, by omega⟩ hq
      rw [e] at h
      refine freeL_has ?_
      rw [hasN_bit h0 h1]
      simpa using h
    · rw [if_neg hk] at h
      exact freeL_has h
/-- a variable that is not free: nothing is put in -/
theorem putX_unfree {x : Int} (h0 : 0 ≤ x) (h1 : x ≤ 63) (u a : Tr) : a.shp = true → hasN (freeT a) x = false → putX x u a = a := by
  induction a using Tr.ind with
  | h a ih =>
    intro hs hf
    by_cases hv : a.k = 1 ∧ a.i = x
    · rw [freeT_eq, if_pos hv.1, hv.2, hasN_withN, decide_eq_true (show 0 ≤ x ∧ x ≤ 63 from ⟨h0, h1⟩)] at hf
      simp at hf
    · by_cases hq : (a.k = 7 ∨ a.k = 10) ∧ a.i = x
      · exact putX_quant h0 h1 hq.1 hq.2
      · rw [putX_else hv hq, map_same fun q hq' => ih q hq' (shp_kid hs hq') (free_kid h0 h1 hs hq hf q hq')]
        exact (Tr.eta a).symm
theorem catL_zero {own : Nat} {x : Int} {ks : List Tr} (h : catL own x ks = 0) : ∀ q ∈ ks, catT own x q = 0 := by
  induction ks with
  | nil => simp
  | cons t r ih =>
    rw [catL_cons, Nat.or_eq_zero_iff] at h
    intro q hq
    rcases List.mem_cons.1 hq with rfl | hq
    · exact h.1
    · exact ih h.2 q hq
theorem cat_unfree {own : Nat} {x : Int} {q : Tr} (h : hasN (freeT q) x = false) : catT own x q = 0 := by rw [catT_eq, h]; rfl
/-- nothing is caught in a kid, if nothing is in the whole -/
theorem cat_kid {own : Nat} {a : Tr} {x : Int} (h0 : 0 ≤ x) (h1 : x ≤ 63) (hs : a.shp = true) (hq : ¬ ((a.k = 7 ∨ a.k = 10) ∧ a.i = x)) (h : catT own x a = 0) : ∀ q ∈ a.ks, catT own x q = 0 := by
  cases hf : hasN (freeT a) x with
  | false => exact fun q hq' => cat_unfree (free_kid h0 h1 hs hq hf q hq')
  | true =>
    rw [catT_eq, hf, if_pos rfl, Nat.or_eq_zero_iff] at h
    exact catL_zero h.2
theorem cat_quant {own : Nat} {a : Tr} {x : Int} (hk : a.k = 7 ∨ a.k = 10) (hi0 : 0 ≤ a.i) (hi1 : a.i ≤ 63) (hf : hasN (freeT a) x = true) (h : catT own x a = 0) : own.testBit a.i.toNat = false := by
  rw [catT_eq, hf, if_pos rfl, Nat.or_eq_zero_iff] at h
  cases hb : own.testBit a.i.toNat with
  | false => rfl
  | true =>
    have h1 := h.1
    rw [if_pos ⟨hk, by rw [hasN_bit hi0 hi1]; exact hb⟩] at h1
    have := tb_with 0 a.i a.i.toNat
    rw [h1, inI_self hi0 hi1] at this
    simp at this
/-! ### terms -/
theorem term_bound (t : Tr) : t.shp = true → termB t.k = true → boundT t = 0 ∧ freeT t = occT t := by
  induction t using Tr.ind with
  | h t ih =>
    intro hs ht
    have hk := term_kind ht
    have hl : ∀ (l : List Tr), (∀ q ∈ l, boundT q = 0 ∧ freeT q = occT q) → boundL l = 0 ∧ freeL l = occL l := by
      intro l
      induction l with
      | nil => intro _; simp [boundL_nil, freeL_nil, occL_nil]
      | cons y l ihl =>
        intro h
        obtain ⟨a1, a2⟩ := h y (by simp)
        obtain ⟨b1, b2⟩ := ihl fun q hq => h q (by simp [hq])
        rw [boundL_cons, freeL_cons, occL_cons, a1, a2, b1, b2]
        simp
    have hkid : ∀ q ∈ t.ks, boundT q = 0 ∧ freeT q = occT q := by
      intro q hq
      refine ih q hq (shp_kid hs hq) ?_
      rw [shp_eq, Bool.and_eq_true, shpL_all, List.all_eq_true] at hs
      have h2 := hs.2 q hq
      rw [Bool.and_eq_true, beq_iff_eq] at h2
      rw [h2.1]
      unfold kidsTerm
      rw [decide_eq_true_eq]
      omega
    obtain ⟨c1, c2⟩ := hl t.ks hkid
    rw [boundT_eq, freeT_eq, occT_eq, c1, c2, if_neg (show ¬ (t.k = 7 ∨ t.k = 10) by omega), if_neg (show ¬ (t.k = 7 ∨ t.k = 10) by omega)]
    simp
theorem term_vars {t : Tr} (hs : t.shp = true) (ht : termB t.k = true) : freeT t = varsT t := by
  obtain ⟨h1, h2⟩ := term_bound t hs ht
  unfold varsT
  rw [h1, h2, Nat.or_zero]
/-! ### the free variables of what was made -/
theorem freeL_map {f : Tr → Tr} {ks : List Tr} {p : Tr → Bool} {j : Nat} (h : ∀ q ∈ ks, (freeT (f q)).testBit j = p q) : (freeL (ks.map f)).testBit j = ks.any p := by
  induction ks with
  | nil => simp [freeL_nil]
  | cons t r ih => rw [List.map_cons, freeL_cons, Nat.testBit_or, h t (by simp), ih (fun q hq => h q (by simp [hq])), List.any_cons]
theorem freeL_any (ks : List Tr) (j : Nat) : (freeL ks).testBit j = ks.any fun q => (freeT q).testBit j := by
  induction ks with
  | nil => simp [freeL_nil]
  | cons t r ih => rw [freeL_cons, Nat.testBit_or, ih, List.any_cons]
theorem putX_free {x : Int} (h0 : 0 ≤ x) (h1 : x ≤ 63) {u : Tr} (hu : u.shp = true) (ht : termB u.k = true) (j : Nat) (a : Tr) : a.shp = true → catT (varsT u) x a = 0 →
    (freeT (putX x u a)).testBit j = (((freeT a).testBit j && !inI x j) || ((freeT a).testBit x.toNat && (varsT u).testBit j)) := by
  induction a using Tr.ind with
  | h a ih =>
    intro hs hc
    have hi : ∀ i : Int, inI i x.toNat = true → i = x := fun i h => by have := (inI_eq h).1; omega
    have hj : ∀ s : Nat, s.testBit x.toNat = false → (s.testBit j && !inI x j) = s.testBit j := by
      intro s h
      cases e : inI x j with
      | false => simp
      | true => have := (inI_eq e).1; rw [show x.toNat = j by omega] at h; rw [h]; rfl
    cases hf : (freeT a).testBit x.toNat with
    | false => rw [putX_unfree h0 h1 u a hs (by rw [hasN_bit h0 h1]; exact hf), hj _ hf]; simp
    | true =>
      simp only [Bool.true_and]
      by_cases hv : a.k = 1 ∧ a.i = x
      · rw [putX_var hv.1 hv.2, term_vars hu ht, freeT_eq, if_pos hv.1, hv.2, tb_with]
        cases inI x j <;> simp
      · by_cases hq : (a.k = 7 ∨ a.k = 10) ∧ a.i = x
        · exfalso
          rw [freeT_eq, if_neg (by omega), if_pos hq.1, tb_without _ _ _ (freeL_U _), hq.2, inI_self h0 h1] at hf
          simp at hf
        · have hkid := cat_kid h0 h1 hs hq hc
          have hk := fun q hq' => ih q hq' (shp_kid hs hq') (hkid q hq')
          rw [putX_else hv hq]
          have hm := freeL_map (f := putX x u) (ks := a.ks) hk
          have hA := freeL_any a.ks j
          have hX := freeL_any a.ks x.toNat
          have key : (freeL (a.ks.map (putX x u))).testBit j = (((freeL a.ks).testBit j && !inI x j) || ((freeL a.ks).testBit x.toNat && (varsT u).testBit j)) := by
            rw [hm, hA, hX]
            generalize a.ks = ks
            induction ks with
            | nil => simp
            | cons t r ihr =>
              rw [List.any_cons, List.any_cons, List.any_cons, ihr]
              cases (freeT t).testBit j <;> cases inI x j <;> cases (freeT t).testBit x.toNat <;> cases (varsT u).testBit j <;> cases (r.any fun q => (freeT q).testBit j) <;> cases (r.any fun q => (freeT q).testBit x.toNat) <;> rfl
          by_cases hk1 : a.k = 1
          · exfalso
            rw [freeT_eq, if_pos hk1, tb_with] at hf
            simp only [Nat.zero_testBit, Bool.false_or] at hf
            exact hv ⟨hk1, hi _ hf⟩
          · by_cases hkq : a.k = 7 ∨ a.k = 10
            · obtain ⟨q0, _, i0, i1⟩ := shp_quant hs hkq
              have hown := cat_quant hkq i0 i1 (by rw [hasN_bit h0 h1]; exact hf) hc
              rw [freeT_node, freeT_eq a]
              rw [if_neg hk1, if_pos hkq, if_neg hk1, if_pos hkq, tb_without _ _ _ (freeL_U _), tb_without _ _ _ (freeL_U _), key]
              have hfx : (freeL a.ks).testBit x.toNat = true := by
                rw [freeT_eq, if_neg hk1, if_pos hkq, tb_without _ _ _ (freeL_U _), Bool.and_eq_true] at hf
                exact hf.1
              rw [hfx]
              cases hI : inI a.i j with
              | false => simp
              | true =>
                have := (inI_eq hI).1
                rw [show a.i.toNat = j by omega] at hown
                rw [hown]
                simp
            · rw [freeT_node, freeT_eq a]
              rw [if_neg hk1, if_neg hkq, if_neg hk1, if_neg hkq, key]
              have hfx : (freeL a.ks).testBit x.toNat = true := by
                rw [freeT_eq, if_neg hk1, if_neg hkq] at hf
                exact hf
              rw [hfx]
              simp
/-! ### a variable in a variable's place -/
theorem szL_map {f : Tr → Tr} {ks : List Tr} (h : ∀ q ∈ ks, (f q).sz = q.sz) : szL (ks.map f) = szL ks := by
  induction ks with
  | nil => rfl
  | cons t r ih => simp only [List.map_cons, szL]; rw [h t (by simp), ih fun q hq => h q (by simp [hq])]
theorem dpL_map {f : Tr → Tr} {ks : List Tr} (h : ∀ q ∈ ks, (f q).dp = q.dp) : dpL (ks.map f) = dpL ks := by
  induction ks with
  | nil => rfl
  | cons t r ih => simp only [List.map_cons, dpL]; rw [h t (by simp), ih fun q hq => h q (by simp [hq])]
theorem putE_same_size {l : List (Int × Tr)} (hl : ∀ p ∈ l, ∃ y, p.2 = varT y) (a : Tr) : ∀ bd, a.shp = true → (putE l a bd).sz = a.sz ∧ (putE l a bd).dp = a.dp := by
  induction a using Tr.ind with
  | h a ih =>
    intro bd hs
    cases h : lookE l bd a.k a.i with
    | some u =>
      obtain ⟨hk, _, hp⟩ := lookE_var h
      obtain ⟨y, hy⟩ := hl _ (lookP_mem hp)
      simp only at hy
      rw [putE_some h, hy, sz_eq a, dp_eq a, (shp_varT hs hk).1]
      simp [Tr.sz, Tr.dp, szL, dpL]
    | none =>
      rw [putE_none h, sz_eq, dp_eq, sz_eq a, dp_eq a]
      simp only [node_ks]
      rw [szL_map fun q hq => (ih q hq _ (shp_kid hs hq)).1, dpL_map fun q hq => (ih q hq _ (shp_kid hs hq)).2]
      exact ⟨rfl, rfl⟩
theorem right_of {t a : Tr} (hs : t.shp = true) (h1 : t.sz = a.sz) (h2 : t.dp = a.dp) (ha : rightN a = 0) : rightN t = 0 := by
  obtain ⟨_, b, c⟩ := right_shp' ha
  unfold rightN
  rw [h1, h2, hs, if_neg (by omega), if_neg (by omega)]
  rfl
theorem putE_vars_right {l : List (Int × Tr)} (hl : ∀ p ∈ l, ∃ y, p.2 = varT y ∧ 0 ≤ y ∧ y ≤ 63) {a : Tr} (ha : rightN a = 0) : rightN (putE l a 0) = 0 := by
  have hs := (right_shp' ha).1
  obtain ⟨e1, e2⟩ := putE_same_size (fun p hp => let ⟨y, e, _⟩ := hl p hp; ⟨y, e⟩) a 0 hs
  refine right_of (putE_shp (fun p hp => ?_) a 0 hs) e1 e2 ha
  obtain ⟨y, e, y0, y1⟩ := hl p hp
  rw [e]
  exact ⟨rfl, (right_shp' (right_var y0 y1)).1⟩
theorem vars_kid {a : Tr} {y : Nat} (hk : a.k ≠ 1) (h : (varsT a).testBit y = false) : ∀ q ∈ a.ks, (varsT q).testBit y = false := by
  unfold varsT at h
  rw [Nat.testBit_or, occT_eq, if_neg hk, boundT_eq, Nat.testBit_or] at h
  have h' : (occL a.ks).testBit y = false ∧ (boundL a.ks).testBit y = false := by
    revert h
    cases (occL a.ks).testBit y <;> cases (boundL a.ks).testBit y <;> simp
  have hl : ∀ l : List Tr, (occL l).testBit y = false → (boundL l).testBit y = false → ∀ q ∈ l, (varsT q).testBit y = false := by
    intro l
    induction l with
    | nil => simp
    | cons t r ih =>
      intro h1 h2 q hq
      rw [occL_cons, Nat.testBit_or, Bool.or_eq_false_iff] at h1
      rw [boundL_cons, Nat.testBit_or, Bool.or_eq_false_iff] at h2
      rcases List.mem_cons.1 hq with rfl | hq
      · unfold varsT; rw [Nat.testBit_or, h1.1, h2.1]; rfl
      · exact ih h1.2 h2.2 q hq
  exact hl a.ks h'.1 h'.2
theorem vars_quant {a : Tr} {y : Int} (y0 : 0 ≤ y) (y1 : y ≤ 63) (hk : a.k = 7 ∨ a.k = 10) (h : (varsT a).testBit y.toNat = false) : a.i ≠ y := by
  intro e
  unfold varsT at h
  rw [Nat.testBit_or, boundT_eq, if_pos hk, Nat.testBit_or, tb_with, e, inI_self y0 y1] at h
  simp at h
theorem vars_var' {a : Tr} {y : Int} (y0 : 0 ≤ y) (y1 : y ≤ 63) (hk : a.k = 1) (h : (varsT a).testBit y.toNat = false) : a.i ≠ y := by
  intro e
  unfold varsT at h
  rw [Nat.testBit_or, occT_eq, if_pos hk, tb_with, e, inI_self y0 y1] at h
  simp at h
theorem vars_free {a : Tr} {y : Int} (y0 : 0 ≤ y) (y1 : y ≤ 63) (h : (varsT a).testBit y.toNat = false) : hasN (freeT a) y = false := by
  rw [hasN_bit y0 y1]
  cases e : (freeT a).testBit y.toNat with
  | false => rfl
  | true =>
    have := free_vars a y.toNat (by rw [Nat.testBit_or, e]; rfl)
    rw [this] at h
    cases h
theorem cat_new {x y : Int} (y0 : 0 ≤ y) (y1 : y ≤ 63) {a : Tr} (h : (varsT a).testBit y.toNat = false) : catT (varsT (varT y)) x a = 0 := by
  apply zero_of_bits
  intro j
  cases e : (catT (varsT (varT y)) x a).testBit j with
  | false => rfl
  | true =>
    exfalso
    have h1 := cat_own _ x a j e
    have h2 := cat_bound _ x a j e
    rw [vars_var, tb_with] at h1
    simp only [Nat.zero_testBit, Bool.false_or] at h1
    have := (inI_eq h1).1
    rw [show y.toNat = j by omega] at h
    unfold varsT at h
    rw [Nat.testBit_or, h2] at h
    simp at h
/-- a new variable, put in: the old one is not caught -/
theorem cat_back {x y : Int} (x0 : 0 ≤ x) (x1 : x ≤ 63) (y0 : 0 ≤ y) (y1 : y ≤ 63) (a : Tr) : a.shp = true → (varsT a).testBit y.toNat = false → catT (varsT (varT x)) y (putX x (varT y) a) = 0 := by
  induction a using Tr.ind with
  | h a ih =>
    intro hs hy
    by_cases hv : a.k = 1 ∧ a.i = x
    · rw [putX_var hv.1 hv.2, catT_eq]
      simp only [node_k, node_ks, catL_nil]
      split <;> simp
    · by_cases hq : (a.k = 7 ∨ a.k = 10) ∧ a.i = x
      · rw [putX_quant x0 x1 hq.1 hq.2]
        exact cat_unfree (vars_free y0 y1 hy)
      · rw [putX_else hv hq]
        have hl : catL (varsT (varT x)) y (a.ks.map (putX x (varT y))) = 0 := by
          by_cases hk : a.k = 1
          · rw [(shp_varT hs hk).1]; exact catL_nil _ _
          · have hv' := vars_kid hk hy
            have : ∀ l : List Tr, (∀ q ∈ l, q ∈ a.ks) → catL (varsT (varT x)) y (l.map (putX x (varT y))) = 0 := by
              intro l
              induction l with
              | nil => intro _; exact catL_nil _ _
              | cons t r ihr =>
                intro h
                rw [List.map_cons, catL_cons, ih t (h t (by simp)) (shp_kid hs (h t (by simp))) (hv' t (h t (by simp))), ihr fun q hq => h q (by simp [hq])]
                rfl
            exact this a.ks fun q hq => hq
        rw [catT_node, hl]
        split
        · have : ¬ ((a.k = 7 ∨ a.k = 10) ∧ hasN (varsT (varT x)) a.i = true) := by
            rintro ⟨hk, hh⟩
            rw [vars_var, hasN_withN, hasN_zero] at hh
            simp only [Bool.false_or, Bool.and_eq_true, decide_eq_true_eq] at hh
            exact hq ⟨hk, hh.1.symm⟩
          rw [if_neg this]
          rfl
        · rfl
theorem putX_back {x y : Int} (x0 : 0 ≤ x) (x1 : x ≤ 63) (y0 : 0 ≤ y) (y1 : y ≤ 63) (a : Tr) : a.shp = true → (varsT a).testBit y.toNat = false → putX y (varT x) (putX x (varT y) a) = a := by
  induction a using Tr.ind with
  | h a ih =>
    intro hs hy
    by_cases hv : a.k = 1 ∧ a.i = x
    · rw [putX_var hv.1 hv.2, putX_var (x := y) (t := varT y) rfl rfl]
      rw [Tr.eta a, (shp_varT hs hv.1).1, hv.1, hv.2]
    · by_cases hq : (a.k = 7 ∨ a.k = 10) ∧ a.i = x
      · rw [putX_quant x0 x1 hq.1 hq.2]
        exact putX_unfree y0 y1 _ a hs (vars_free y0 y1 hy)
      · rw [putX_else hv hq, putX_else (by rintro ⟨h1, h2⟩; exact vars_var' (a := a) y0 y1 h1 hy h2) (by rintro ⟨h1, h2⟩; exact vars_quant (a := a) y0 y1 h1 hy h2)]
        simp only [node_k, node_i, node_ks]
        rw [List.map_map]
        by_cases hk : a.k = 1
        · rw [(shp_varT hs hk).1]
          rw [Tr.eta a, (shp_varT hs hk).1]
          rfl
        · rw [map_same (f := putX y (varT x) ∘ putX x (varT y)) fun q hq' => ih q hq' (shp_kid hs hq') (vars_kid hk hy q hq')]
          exact (Tr.eta a).symm
/-! ### two changed about -/
def swapP (x y : Int) : List (Int × Tr) := [(x, varT y), (y, varT x)]
theorem bound_kid {a : Tr} (h : boundT a = 0) : ∀ q ∈ a.ks, boundT q = 0 := by
  rw [boundT_eq, Nat.or_eq_zero_iff] at h
  have h := h.2
  generalize a.ks = ks at h
  induction ks with
  | nil => simp
  | cons t r ih =>
    rw [boundL_cons, Nat.or_eq_zero_iff] at h
    intro q hq
    rcases List.mem_cons.1 hq with rfl | hq
    · exact h.1
    · exact ih h.2 q hq
theorem bound_quant {a : Tr} (hs : a.shp = true) (h : boundT a = 0) : ¬ (a.k = 7 ∨ a.k = 10) := by
  intro hk
  obtain ⟨_, _, i0, i1⟩ := shp_quant hs hk
  rw [boundT_eq, if_pos hk, Nat.or_eq_zero_iff] at h
  have := tb_with 0 a.i a.i.toNat
  rw [h.1, inI_self i0 i1] at this
  simp at this
theorem lookP_swap {x y : Int} (hxy : x ≠ y) (i : Int) : lookP (swapP x y) i = if i = x then some (varT y) else if i = y then some (varT x) else none := by
  unfold lookP swapP
  by_cases h1 : i = x
  · subst h1; simp
  · by_cases h2 : i = y
    · subst h2
      rw [List.find?_cons, decide_eq_false hxy, List.find?_cons, decide_eq_true rfl, if_neg h1, if_pos rfl]
      rfl
    · have : ¬ x = i := fun e => h1 e.symm
      have : ¬ y = i := fun e => h2 e.symm
      simp [*]
theorem swap_twice {x y : Int} (hxy : x ≠ y) (a : Tr) : a.shp = true → boundT a = 0 → boundT (putE (swapP x y) a 0) = 0 ∧ putE (swapP x y) (putE (swapP x y) a 0) 0 = a := by
  induction a using Tr.ind with
  | h a ih =>
    intro hs hb
    have hk := bound_quant hs hb
    have hbd : bdB a.k a.i 0 = 0 := by unfold bdB; rw [if_neg hk]
    have bv : ∀ z, boundT (varT z) = 0 := fun z => by rw [boundT_eq]; simp [Tr.k, Tr.ks, boundL_nil]
    have eta : a.k = 1 → a = .node 1 a.i [] := fun h => by rw [← h, ← (shp_varT hs h).1]; exact Tr.eta a
    cases h : lookE (swapP x y) 0 a.k a.i with
    | some u =>
      obtain ⟨h1, _, hp⟩ := lookE_var h
      rw [putE_some h]
      rw [lookP_swap hxy] at hp
      by_cases hx : a.i = x
      · rw [if_pos hx] at hp
        obtain rfl := Option.some.inj hp
        refine ⟨bv _, ?_⟩
        rw [putE_some (u := varT x)]
        · rw [eta h1, hx]
        · show lookE (swapP x y) 0 1 y = _
          unfold lookE
          rw [hasN_zero, if_pos ⟨rfl, rfl⟩, lookP_swap hxy, if_neg (fun e => hxy e.symm), if_pos rfl]
      · rw [if_neg hx] at hp
        by_cases hy : a.i = y
        · rw [if_pos hy] at hp
          obtain rfl := Option.some.inj hp
          refine ⟨bv _, ?_⟩
          rw [putE_some (u := varT y)]
          · rw [eta h1, hy]
          · show lookE (swapP x y) 0 1 x = _
            unfold lookE
            rw [hasN_zero, if_pos ⟨rfl, rfl⟩, lookP_swap hxy, if_pos rfl]
        · rw [if_neg hy] at hp; cases hp
    | none =>
      rw [putE_none h, hbd]
      have hm : ∀ q ∈ a.ks, boundT (putE (swapP x y) q 0) = 0 ∧ putE (swapP x y) (putE (swapP x y) q 0) 0 = q := fun q hq => ih q hq (shp_kid hs hq) (bound_kid hb q hq)
      constructor
      · rw [boundT_node, if_neg hk, Nat.zero_or]
        have : ∀ l : List Tr, (∀ q ∈ l, q ∈ a.ks) → boundL (l.map fun q => putE (swapP x y) q 0) = 0 := by
          intro l
          induction l with
          | nil => intro _; exact boundL_nil
          | cons t r ihr => intro h; rw [List.map_cons, boundL_cons, (hm t (h t (by simp))).1, ihr fun q hq => h q (by simp [hq])]; rfl
        exact this a.ks fun q hq => hq
      · rw [putE_none (by exact h)]
        simp only [node_k, node_i, node_ks]
        rw [hbd, List.map_map, map_same (f := (fun q => putE (swapP x y) q 0) ∘ fun q => putE (swapP x y) q 0) fun q hq => (hm q hq).2]
        exact (Tr.eta a).symm
theorem cat_unbound {own : Nat} {x : Int} {a : Tr} (h : boundT a = 0) : catT own x a = 0 := by
  apply zero_of_bits
  intro j
  cases e : (catT own x a).testBit j with
  | false => rfl
  | true => have := cat_bound _ x a j e; rw [h] at this; simp at this
/-! ### the substitution lemma -/
theorem putX_lemma {x y : Int} (x0 : 0 ≤ x) (x1 : x ≤ 63) (y0 : 0 ≤ y) (y1 : y ≤ 63) (hxy : x ≠ y) {t u : Tr} (ht : t.shp = true) (htk : termB t.k = true) (hu : u.shp = true) (huk : termB u.k = true) (hxu : (varsT u).testBit x.toNat = false) (a : Tr) : a.shp = true →
    catT (varsT t) x a = 0 → catT (varsT u) y (putX x t a) = 0 → catT (varsT u) y a = 0 → catT (varsT (putX y u t)) x (putX y u a) = 0 →
    putX y u (putX x t a) = putX x (putX y u t) (putX y u a) := by
  induction a using Tr.ind with
  | h a ih =>
    intro hs h1 h2 h3 h4
    by_cases hk : a.k = 1
    · have hks := (shp_varT hs hk).1
      by_cases hx : a.i = x
      · rw [putX_var hk hx, putX_else (x := y) (t := a) (by rintro ⟨_, e⟩; exact hxy (hx.symm.trans e)) (by omega)]
        rw [putX_var (t := .node a.k a.i _) (by exact hk) (by exact hx)]
      · by_cases hy : a.i = y
        · rw [putX_var (x := y) hk hy, putX_else (x := x) (t := a) (fun e => hx e.2) (by omega), putX_var (t := .node a.k a.i _) (by exact hk) (by exact hy)]
          rw [putX_unfree x0 x1 _ u hu (vars_free x0 x1 hxu)]
        · have e1 : ∀ v, putX x v a = a := fun v => by rw [putX_else (fun e => hx e.2) (by omega), hks]; rw [Tr.eta a, hks]; rfl
          have e2 : putX y u a = a := by rw [putX_else (fun e => hy e.2) (by omega), hks]; rw [Tr.eta a, hks]; rfl
          rw [e1, e2, e1]
    · by_cases hqx : (a.k = 7 ∨ a.k = 10) ∧ a.i = x
      · rw [putX_quant x0 x1 hqx.1 hqx.2]
        rw [putX_else (x := y) (t := a) (fun e => hk e.1) (by rintro ⟨_, e⟩; exact hxy (hqx.2.symm.trans e))]
        rw [putX_quant (t := .node a.k a.i _) x0 x1 (by exact hqx.1) (by exact hqx.2)]
      · by_cases hqy : (a.k = 7 ∨ a.k = 10) ∧ a.i = y
        · rw [putX_quant (t := a) y0 y1 hqy.1 hqy.2, putX_else (x := x) (t := a) (fun e => hk e.1) hqx]
          rw [putX_quant (t := .node a.k a.i _) y0 y1 (by exact hqy.1) (by exact hqy.2), putX_else (x := x) (t := a) (fun e => hk e.1) hqx]
          congr 1
          refine List.map_congr_left fun q hq => ?_
          cases hf : hasN (freeT q) x with
          | false => rw [putX_unfree x0 x1 _ q (shp_kid hs hq) hf, putX_unfree x0 x1 _ q (shp_kid hs hq) hf]
          | true =>
            have hfa : hasN (freeT a) x = true := by
              cases e : hasN (freeT a) x with
              | true => rfl
              | false => rw [free_kid x0 x1 hs hqx e q hq] at hf; cases hf
            have := cat_quant hqy.1 (by omega) (by omega) hfa h1
            rw [hqy.2] at this
            rw [putX_unfree y0 y1 u t ht (vars_free y0 y1 this)]
        · have s1 : (putX x t a).shp = true := putE_shp (by simp [ht, htk]) a 0 hs
          have s2 : (putX y u a).shp = true := putE_shp (by simp [hu, huk]) a 0 hs
          have c1 := cat_kid x0 x1 hs hqx h1
          have c3 := cat_kid y0 y1 hs hqy h3
          rw [putX_else (x := x) (t := a) (fun e => hk e.1) hqx] at h2 s1 ⊢
          rw [putX_else (x := y) (t := a) (fun e => hk e.1) hqy] at h4 s2 ⊢
          have c2 := cat_kid y0 y1 s1 hqy h2
          have c4 := cat_kid x0 x1 s2 hqx h4
          rw [putX_else (t := .node a.k a.i _) (fun e => hk e.1) hqy, putX_else (t := .node a.k a.i _) (fun e => hk e.1) hqx]
          simp only [node_k, node_i, node_ks]
          rw [List.map_map, List.map_map]
          congr 1
          refine List.map_congr_left fun q hq => ?_
          exact ih q hq (shp_kid hs hq) (c1 q hq) (c2 _ (List.mem_map.2 ⟨q, hq, rfl⟩)) (c3 q hq) (c4 _ (List.mem_map.2 ⟨q, hq, rfl⟩))
end Go.Proofs.YtgnfbhemkombaaaGreat
