/- Terms put in for variables, several at once: plain mathematics. -/
import Derived.Test.YtgnfbhemkombaaaGreatT14
namespace Go.Proofs.YtgnfbhemkombaaaGreat
set_option linter.unusedVariables false
set_option linter.unusedSimpArgs false
theorem node_k (k i : Int) (ks : List Tr) : (Tr.node k i ks).k = k := rfl
theorem node_i (k i : Int) (ks : List Tr) : (Tr.node k i ks).i = i := rfl
theorem node_ks (k i : Int) (ks : List Tr) : (Tr.node k i ks).ks = ks := rfl
/-- the term of a variable -/
def lookP (l : List (Int × Tr)) (i : Int) : Option Tr := (l.find? fun p => decide (p.1 = i)).map Prod.snd
def lookE (l : List (Int × Tr)) (bd : Nat) (k i : Int) : Option Tr := if k = 1 ∧ hasN bd i = false then lookP l i else none
def bdB (k i : Int) (bd : Nat) : Nat := if k = 7 ∨ k = 10 then withN bd i else bd
mutual
def putE (l : List (Int × Tr)) : Tr → Nat → Tr
  | .node k i ks, bd => (lookE l bd k i).getD (.node k i (putEL l ks (bdB k i bd)))
def putEL (l : List (Int × Tr)) : List Tr → Nat → List Tr
  | [], _ => []
  | .node k i ks :: r, bd => putE l (.node k i ks) bd :: putEL l r bd
end
theorem putE_eq (l : List (Int × Tr)) (t : Tr) (bd : Nat) : putE l t bd = (lookE l bd t.k t.i).getD (.node t.k t.i (putEL l t.ks (bdB t.k t.i bd))) := by cases t; rw [putE]; rfl
theorem putEL_map (l : List (Int × Tr)) (ks : List Tr) (bd : Nat) : putEL l ks bd = ks.map fun q => putE l q bd := by
  induction ks with
  | nil => simp [putEL]
  | cons t r ih => cases t; simp [putEL, ih]
theorem putE_some {l : List (Int × Tr)} {t u : Tr} {bd : Nat} (h : lookE l bd t.k t.i = some u) : putE l t bd = u := by rw [putE_eq, h]; rfl
theorem putE_none {l : List (Int × Tr)} {t : Tr} {bd : Nat} (h : lookE l bd t.k t.i = none) : putE l t bd = .node t.k t.i (t.ks.map fun q => putE l q (bdB t.k t.i bd)) := by rw [putE_eq, h, putEL_map]; rfl
theorem lookE_var {l : List (Int × Tr)} {bd : Nat} {k i : Int} {u : Tr} (h : lookE l bd k i = some u) : k = 1 ∧ hasN bd i = false ∧ lookP l i = some u := by
  unfold lookE at h
  split at h
  · rename_i hh; exact ⟨hh.1, hh.2, h⟩
  · cases h
theorem lookP_mem {l : List (Int × Tr)} {i : Int} {u : Tr} (h : lookP l i = some u) : (i, u) ∈ l := by
  unfold lookP at h
  rw [Option.map_eq_some_iff] at h
  obtain ⟨p, hp, rfl⟩ := h
  have h1 := List.find?_some hp
  have h2 := List.mem_of_find?_eq_some hp
  rw [decide_eq_true_eq] at h1
  rw [← h1]
  exact h2
theorem shp_varT {t : Tr} (h : t.shp = true) (hk : t.k = 1) : t.ks = [] ∧ 0 ≤ t.i ∧ t.i ≤ 63 := by
  rw [shp_eq, Bool.and_eq_true, hk] at h
  have h1 := h.1
  unfold kindOk at h1
  simp at h1
  exact ⟨h1.2.2, h1.1, h1.2.1⟩
theorem shp_quant {t : Tr} (h : t.shp = true) (hk : t.k = 7 ∨ t.k = 10) : ∃ q, t.ks = [q] ∧ 0 ≤ t.i ∧ t.i ≤ 63 := by
  rw [shp_eq, Bool.and_eq_true] at h
  have h1 := h.1
  unfold kindOk at h1
  have : t.ks.length = 1 ∧ 0 ≤ t.i ∧ t.i ≤ 63 := by
    rcases hk with e | e <;> rw [e] at h1 <;> simp at h1 <;> omega
  match hq : t.ks with
  | [q] => exact ⟨q, rfl, this.2⟩
  | [] => rw [hq] at this; simp at this
  | _ :: _ :: _ => rw [hq] at this; simp at this
theorem shp_kid {t q : Tr} (h : t.shp = true) (hq : q ∈ t.ks) : q.shp = true := by
  rw [shp_eq, Bool.and_eq_true, shpL_all, List.all_eq_true] at h
  exact (Bool.and_eq_true _ _ ▸ h.2 q hq : _ ∧ _).2
/-- how deep what was put in lies: the node at depth d -/
def dpP (l : List (Int × Tr)) : Nat → Tr → Nat → Nat
  | d, .node k i ks, bd => match lookE l bd k i with
    | some u => d - 1 + u.dp
    | none => go l (d + 1) ks (bdB k i bd)
where go (l : List (Int × Tr)) : Nat → List Tr → Nat → Nat
  | _, [], _ => 0
  | d, t :: r, bd => max (dpP l d t bd) (go l d r bd)
theorem dpP_some {l : List (Int × Tr)} {d : Nat} {t u : Tr} {bd : Nat} (h : lookE l bd t.k t.i = some u) : dpP l d t bd = d - 1 + u.dp := by
  cases t with
  | node k i ks =>
    have h' : lookE l bd k i = some u := h
    rw [dpP, h']
theorem dpP_none {l : List (Int × Tr)} {d : Nat} {t : Tr} {bd : Nat} (h : lookE l bd t.k t.i = none) : dpP l d t bd = dpP.go l (d + 1) t.ks (bdB t.k t.i bd) := by
  cases t with
  | node k i ks =>
    have h' : lookE l bd k i = none := h
    rw [dpP, h']
    rfl
theorem dpGo_le {l : List (Int × Tr)} {d : Nat} {ks : List Tr} {bd M : Nat} : dpP.go l d ks bd ≤ M ↔ ∀ q ∈ ks, dpP l d q bd ≤ M := by
  induction ks with
  | nil => simp [dpP.go]
  | cons t r ih => simp only [dpP.go, List.mem_cons, forall_eq_or_imp, ← ih]; omega
theorem dpL_le {ks : List Tr} {M : Nat} : dpL ks ≤ M ↔ ∀ q ∈ ks, q.dp ≤ M := by
  induction ks with
  | nil => simp [dpL]
  | cons t r ih => simp only [dpL, List.mem_cons, forall_eq_or_imp, ← ih]; omega
/-- what was put in lies no deeper than M just if the whole is so -/
theorem dpP_iff (l : List (Int × Tr)) (M : Nat) (t : Tr) : ∀ (d bd : Nat), 1 ≤ d → d - 1 + t.dp ≤ M → (dpP l d t bd ≤ M ↔ d - 1 + (putE l t bd).dp ≤ M) := by
  induction t using Tr.ind with
  | h t ih =>
    intro d bd hd hM
    cases hl : lookE l bd t.k t.i with
    | some u => rw [dpP_some hl, putE_some hl]
    | none =>
      rw [dpP_none hl, putE_none hl, dpGo_le]
      rw [dp_eq] at hM
      rw [show (Tr.node t.k t.i (t.ks.map fun q => putE l q (bdB t.k t.i bd))).dp = 1 + dpL (t.ks.map fun q => putE l q (bdB t.k t.i bd)) by simp [Tr.dp]]
      have hk : ∀ q ∈ t.ks, q.dp ≤ dpL t.ks := dpL_le.1 (Nat.le_refl _)
      constructor
      · intro h
        have : dpL (t.ks.map fun q => putE l q (bdB t.k t.i bd)) ≤ M - d := by
          rw [dpL_le]
          intro q hq
          obtain ⟨q', hq', rfl⟩ := List.mem_map.1 hq
          have h1 := hk q' hq'
          have h2 := (ih q' hq' (d + 1) (bdB t.k t.i bd) (by omega) (by omega)).1 (h q' hq')
          omega
        omega
      · intro h q hq
        have h1 := hk q hq
        refine (ih q hq (d + 1) (bdB t.k t.i bd) (by omega) (by omega)).2 ?_
        have h3 := dpL_le.1 (Nat.le_refl (dpL (t.ks.map fun q => putE l q (bdB t.k t.i bd)))) (putE l q (bdB t.k t.i bd)) (List.mem_map.2 ⟨q, hq, rfl⟩)
        omega
theorem szL_map_sum (f : Tr → Tr) (ks : List Tr) : szL (ks.map f) = (ks.map fun q => (f q).sz).sum := by
  induction ks with
  | nil => simp [szL]
  | cons t r ih => simp [szL, ih]
/-! ### a walk with a stack -/
/-- what is yet to be looked at: a node, its depth, what is named around -/
abbrev Spot := Tr × Nat × Nat
def spS (l : List (Int × Tr)) (st : List Spot) : Nat := (st.map fun s => (putE l s.1 s.2.2).sz).sum
def spN (st : List Spot) : Nat := (st.map fun s => s.1.sz).sum
def spD (l : List (Int × Tr)) (st : List Spot) (M : Nat) : Prop := ∀ s ∈ st, dpP l s.2.1 s.1 s.2.2 ≤ M
def kidSp (t : Tr) (d bd : Nat) : List Spot := t.ks.map fun q => (q, d + 1, bdB t.k t.i bd)
theorem spS_append (l : List (Int × Tr)) (a b : List Spot) : spS l (a ++ b) = spS l a + spS l b := by simp [spS]
theorem spN_append (a b : List Spot) : spN (a ++ b) = spN a + spN b := by simp [spN]
theorem spN_kids (t : Tr) (d bd : Nat) : spN (kidSp t d bd) + 1 = t.sz := by
  rw [sz_eq]
  have : ∀ ks : List Tr, ((ks.map fun q => (q, d + 1, bdB t.k t.i bd)).map fun s : Spot => s.1.sz).sum = szL ks := by
    intro ks
    induction ks with
    | nil => simp [szL]
    | cons x r ih => simp only [List.map_cons, List.sum_cons, ih, szL]
  unfold spN kidSp
  rw [this]
  omega
theorem spS_kids {l : List (Int × Tr)} {t : Tr} {d bd : Nat} (h : lookE l bd t.k t.i = none) : (putE l t bd).sz = 1 + spS l (kidSp t d bd) := by
  rw [putE_none h, sz_eq]
  simp only [node_ks]
  rw [szL_map_sum]
  unfold spS kidSp
  rw [List.map_map]
  rfl
theorem spN_len (st : List Spot) : st.length ≤ spN st := by
  induction st with
  | nil => simp
  | cons s st ih => unfold spN at *; simp only [List.map_cons, List.sum_cons, List.length_cons]; have := sz_pos s.1; omega
theorem kidSp_take (t : Tr) (d bd m : Nat) (h : m < t.ks.length) : (kidSp t d bd).take (m + 1) = (kidSp t d bd).take m ++ [(t.ks[m], d + 1, bdB t.k t.i bd)] := by
  have : m < (kidSp t d bd).length := by simpa [kidSp] using h
  rw [List.take_succ_eq_append_getElem this]
  simp [kidSp]
/-! ### what is put in is right -/
theorem term_kind {t : Tr} (h : termB t.k = true) : t.k = 1 ∨ t.k = 2 := by
  unfold termB at h
  simpa using h
theorem putE_k {l : List (Int × Tr)} (hl : ∀ p ∈ l, termB p.2.k = true) (t : Tr) (bd : Nat) : termB (putE l t bd).k = termB t.k := by
  cases h : lookE l bd t.k t.i with
  | some u =>
    obtain ⟨hk, _, hp⟩ := lookE_var h
    rw [putE_some h, hl _ (lookP_mem hp), hk]
    rfl
  | none => rw [putE_none h]; rfl
theorem putE_shp {l : List (Int × Tr)} (hl : ∀ p ∈ l, termB p.2.k = true ∧ p.2.shp = true) (t : Tr) : ∀ bd, t.shp = true → (putE l t bd).shp = true := by
  induction t using Tr.ind with
  | h t ih =>
    intro bd hs
    cases h : lookE l bd t.k t.i with
    | some u =>
      obtain ⟨hk, _, hp⟩ := lookE_var h
      rw [putE_some h]
      exact (hl _ (lookP_mem hp)).2
    | none =>
      rw [putE_none h, shp_eq]
      have hs' := hs
      rw [shp_eq, Bool.and_eq_true, shpL_all, List.all_eq_true] at hs'
      simp only [node_k, node_i, node_ks, List.length_map]
      rw [Bool.and_eq_true]
      refine ⟨hs'.1, ?_⟩
      rw [shpL_all, List.all_eq_true]
      intro q hq
      obtain ⟨q', hq', rfl⟩ := List.mem_map.1 hq
      have h2 := hs'.2 q' hq'
      rw [Bool.and_eq_true] at h2 ⊢
      rw [putE_k (fun p hp => (hl p hp).1)]
      exact ⟨h2.1, ih q' hq' _ h2.2⟩
/-- the number of its error: too many, or too deep -/
theorem putE_right {l : List (Int × Tr)} (hl : ∀ p ∈ l, termB p.2.k = true ∧ p.2.shp = true) {t : Tr} (hs : t.shp = true) : rightN (putE l t 0) = if 1000 < (putE l t 0).sz then 20 else if 100 < (putE l t 0).dp then 21 else 0 := by
  unfold rightN
  rw [putE_shp hl t 0 hs]
  rfl
end Go.Proofs.YtgnfbhemkombaaaGreat
