/- The text of a tree: plain mathematics. -/
import Derived.Test.YtgnfbhemkombaaaDoorT2
import Derived.Lib.ItoaNum
namespace Go.Proofs.YtgnfbhemkombaaaDoor
set_option linter.unusedVariables false
set_option linter.unusedSimpArgs false
/-- a number's digits -/
def decT (i : Int) : List UInt8 := Lib.decDigits i.toNat
/-- texts, each behind a comma and a blank -/
def commasT : List (List UInt8) → List UInt8
  | [] => []
  | x :: r => [44, 32] ++ x ++ commasT r
/-- texts in parentheses, if there are any -/
def listX : List (List UInt8) → List UInt8
  | [] => []
  | x :: r => [40] ++ x ++ commasT r ++ [41]
def betwX (s : List UInt8) (xs : List (List UInt8)) : List UInt8 := xs.getD 0 [] ++ s ++ xs.getD 1 []
/-- the text of a node, by those of its kids -/
def nodeX (k i : Int) (xs : List (List UInt8)) : List UInt8 :=
  if k = 1 then [120] ++ decT i ++ listX xs else if k = 2 then [102] ++ decT i ++ listX xs else if k = 3 then [80] ++ decT i ++ listX xs
  else if k = 4 then betwX [32, 61, 32] xs else if k = 5 then [33] ++ xs.getD 0 []
  else if k = 7 then [64, 120] ++ decT i ++ [32] ++ xs.getD 0 [] else if k = 10 then [63, 120] ++ decT i ++ [32] ++ xs.getD 0 []
  else if k = 6 then [40] ++ betwX [32, 62, 32] xs ++ [41] else if k = 8 then [40] ++ betwX [32, 38, 32] xs ++ [41] else [40] ++ betwX [32, 124, 32] xs ++ [41]
mutual
def textT : Tr → List UInt8
  | .node k i ks => nodeX k i (textL ks)
def textL : List Tr → List (List UInt8)
  | [] => []
  | t :: r => textT t :: textL r
end
theorem textL_map (l : List Tr) : textL l = l.map textT := by
  induction l with
  | nil => simp [textL]
  | cons t r ih => simp [textL, ih]
theorem textT_eq (t : Tr) : textT t = nodeX t.k t.i (t.ks.map textT) := by
  cases t
  rw [textT, textL_map]
  rfl
theorem dec_short : ∀ n : Nat, n < 100 → (Lib.decDigits n).length ≤ 2 := by
  intro n h
  rw [Lib.decDigits]
  split
  · simp
  · rw [Lib.decDigits, dif_pos (by omega)]
    simp
theorem commas_len (l : List Tr) (h : ∀ q ∈ l, (textT q).length + 2 ≤ 5 * q.sz) : (commasT (l.map textT)).length ≤ 5 * szL l := by
  induction l with
  | nil => simp [commasT]
  | cons t r ih =>
    have h1 := h t (by simp)
    have h2 := ih fun q hq => h q (by simp [hq])
    simp only [List.map_cons, commasT, List.length_append, szL, List.length_cons, List.length_nil]
    omega
theorem listX_len (l : List Tr) (h : ∀ q ∈ l, (textT q).length + 2 ≤ 5 * q.sz) : (listX (l.map textT)).length ≤ 5 * szL l := by
  cases l with
  | nil => simp [listX]
  | cons t r =>
    have h1 := h t (by simp)
    have h2 := commas_len r fun q hq => h q (by simp [hq])
    simp only [List.map_cons, listX, List.length_append, szL, List.length_cons, List.length_nil]
    omega
/-- a node's kind, its number and its kids, of a right tree -/
theorem shp_node {t : Tr} (h : t.shp = true) : 0 ≤ t.i ∧ t.i ≤ 99 ∧ (t.k = 1 ∧ t.ks = [] ∨ (t.k = 2 ∨ t.k = 3) ∧ t.ks.length ≤ 4 ∨ (∃ a, t.ks = [a]) ∧ (t.k = 5 ∨ t.k = 7 ∨ t.k = 10) ∨ (∃ a b, t.ks = [a, b]) ∧ (t.k = 4 ∨ t.k = 6 ∨ t.k = 8 ∨ t.k = 9)) := by
  rw [shp_eq, Bool.and_eq_true] at h
  have h1 := h.1
  unfold kindOk at h1
  rw [Bool.and_eq_true, decide_eq_true_eq] at h1
  obtain ⟨i0, h2⟩ := h1
  have two : t.ks.length = 2 → ∃ a b, t.ks = [a, b] := fun e => by
    match hq : t.ks with
    | [a, b] => exact ⟨a, b, rfl⟩
    | [] => rw [hq] at e; simp at e
    | [_] => rw [hq] at e; simp at e
    | _ :: _ :: _ :: _ => rw [hq] at e; simp at e
  have one : t.ks.length = 1 → ∃ a, t.ks = [a] := fun e => by
    match hq : t.ks with
    | [a] => exact ⟨a, rfl⟩
    | [] => rw [hq] at e; simp at e
    | _ :: _ :: _ => rw [hq] at e; simp at e
  refine ⟨i0, ?_⟩
  split at h2
  · rename_i e; simp at h2; exact ⟨by omega, .inl ⟨e, h2.2⟩⟩
  split at h2
  · rename_i e; simp at h2; exact ⟨by omega, .inr (.inl ⟨e, by omega⟩)⟩
  split at h2
  · rename_i e; simp at h2; exact ⟨by omega, .inr (.inr (.inr ⟨two (by omega), .inl e⟩))⟩
  split at h2
  · rename_i e; simp at h2; exact ⟨by omega, .inr (.inr (.inl ⟨one (by omega), .inl e⟩))⟩
  split at h2
  · rename_i e; simp at h2; exact ⟨by omega, .inr (.inr (.inr ⟨two (by omega), .inr e⟩))⟩
  split at h2
  · rename_i e; simp at h2; exact ⟨by omega, .inr (.inr (.inl ⟨one (by omega), .inr e⟩))⟩
  · cases h2
theorem shp_kidY {t q : Tr} (h : t.shp = true) (hq : q ∈ t.ks) : q.shp = true := by
  rw [shp_eq, Bool.and_eq_true, shpL_all, List.all_eq_true] at h
  exact (Bool.and_eq_true _ _ ▸ h.2 q hq : _ ∧ _).2
/-- a right tree's text is short -/
theorem text_len (t : Tr) : t.shp = true → (textT t).length + 2 ≤ 5 * t.sz := by
  induction t using Tr.ind with
  | h t ih =>
    intro h
    have ihk : ∀ q ∈ t.ks, (textT q).length + 2 ≤ 5 * q.sz := fun q hq => ih q hq (shp_kidY h hq)
    obtain ⟨i0, i1, hc⟩ := shp_node h
    have hd : (decT t.i).length ≤ 2 := dec_short _ (by omega)
    have hz := sz_eq t
    rw [textT_eq]
    rcases hc with ⟨hk, hks⟩ | ⟨hk, hks⟩ | ⟨⟨a, hks⟩, hk⟩ | ⟨⟨a, b, hks⟩, hk⟩
    · rw [hks] at hz ⊢
      simp only [nodeX, hk, List.map_nil, listX, if_true, List.length_append, List.length_cons, List.length_nil, szL] at hz ⊢
      omega
    · have hl := listX_len t.ks ihk
      rcases hk with hk | hk <;> rw [hk] <;> simp [nodeX] <;> omega
    · have ha := ihk a (by rw [hks]; simp)
      rw [hks] at hz ⊢
      simp only [szL] at hz
      rcases hk with hk | hk | hk <;> rw [hk] <;> simp [nodeX] <;> omega
    · have ha := ihk a (by rw [hks]; simp)
      have hb := ihk b (by rw [hks]; simp)
      rw [hks] at hz ⊢
      simp only [szL] at hz
      rcases hk with hk | hk | hk | hk <;> rw [hk] <;> simp [nodeX, betwX] <;> omega
end Go.Proofs.YtgnfbhemkombaaaDoor
