/- Plain forms, as plain mathematics: an expression with its abbreviations unfolded. No program is named. -/
import Derived.Test.YtjdhmfpkhijkeaaT13
namespace Go.Proofs.Ytjdhmfpkhijkeaa
set_option linter.unusedVariables false
set_option linter.unusedSimpArgs false
theorem nod_k (k i : Int) (ks : List Tr) : (Tr.node k i ks).k = k := rfl
theorem nod_i (k i : Int) (ks : List Tr) : (Tr.node k i ks).i = i := rfl
theorem nod_ks (k i : Int) (ks : List Tr) : (Tr.node k i ks).ks = ks := rfl
theorem nod_shp (k i : Int) (ks : List Tr) : (Tr.node k i ks).shp = (kindOk k i ks.length && shpL (kidsTerm k) ks) := shp_eq _
theorem len_two {α : Type} : ∀ {l : List α}, l.length = 2 → ∃ a b, l = [a, b]
  | [a, b], _ => ⟨a, b, rfl⟩
theorem len_one {α : Type} : ∀ {l : List α}, l.length = 1 → ∃ a, l = [a]
  | [a], _ => ⟨a, rfl⟩
theorem len_zero {α : Type} : ∀ {l : List α}, l.length = 0 → l = []
  | [], _ => rfl
/-- a node over given kids, its own abbreviation unfolded -/
def unf (k i : Int) : List Tr → Tr
  | [a, b] => if k = 8 then .node 5 0 [.node 6 0 [a, .node 5 0 [b]]] else if k = 9 then .node 6 0 [.node 5 0 [a], b] else .node k i [a, b]
  | [a] => if k = 10 then .node 5 0 [.node 7 i [.node 5 0 [a]]] else .node k i [a]
  | ks => .node k i ks
mutual
def plainT : Tr → Tr
  | .node k i ks => unf k i (plainL ks)
def plainL : List Tr → List Tr
  | [] => []
  | t :: r => plainT t :: plainL r
end
def unfT (t : Tr) : Tr := unf t.k t.i t.ks
theorem plainT_eq (t : Tr) : plainT t = unf t.k t.i (plainL t.ks) := by cases t; rfl
theorem plainL_map : ∀ l : List Tr, plainL l = l.map plainT
  | [] => rfl
  | t :: r => by rw [plainL, plainL_map r]; rfl
theorem plainL_take (ks : List Tr) (m : Nat) (h : m < ks.length) : plainL (ks.take (m + 1)) = plainL (ks.take m) ++ [plainT ks[m]] := by
  rw [plainL_map, plainL_map, List.take_succ_eq_append_getElem h, List.map_append]; rfl
theorem plainL_len (ks : List Tr) : (plainL ks).length = ks.length := by rw [plainL_map]; simp
/-- the shapes of a node, as far as unfolding looks -/
theorem unf_cases (k i : Int) (ks : List Tr) : (∃ a b, ks = [a, b] ∧ k = 8) ∨ (∃ a b, ks = [a, b] ∧ k = 9) ∨ (∃ a, ks = [a] ∧ k = 10) ∨ (unf k i ks = .node k i ks ∧ ∀ ls : List Tr, ls.length = ks.length → unf k i ls = .node k i ls) := by
  rcases ks with _ | ⟨a, _ | ⟨b, _ | ⟨c, r⟩⟩⟩
  · exact .inr (.inr (.inr ⟨rfl, fun ls h => by rw [len_zero (l := ls) (by simpa using h)]; rfl⟩))
  · by_cases h : k = 10
    · exact .inr (.inr (.inl ⟨a, rfl, h⟩))
    · refine .inr (.inr (.inr ⟨by simp [unf, h], fun ls hl => ?_⟩))
      obtain ⟨x, rfl⟩ := len_one hl
      simp [unf, h]
  · by_cases h8 : k = 8
    · exact .inl ⟨a, b, rfl, h8⟩
    · by_cases h9 : k = 9
      · exact .inr (.inl ⟨a, b, rfl, h9⟩)
      · refine .inr (.inr (.inr ⟨by simp [unf, h8, h9], fun ls hl => ?_⟩))
        obtain ⟨x, y, rfl⟩ := len_two hl
        simp [unf, h8, h9]
  · refine .inr (.inr (.inr ⟨rfl, fun ls hl => ?_⟩))
    rcases ls with _ | ⟨x, _ | ⟨y, _ | ⟨z, s⟩⟩⟩
    · rfl
    · simp at hl
    · simp at hl
    · rfl
theorem plain_unf (t : Tr) : plainT t = .node (unfT t).k (unfT t).i (plainL (unfT t).ks) := by
  obtain ⟨k, i, ks⟩ := t
  rcases unf_cases k i ks with ⟨a, b, rfl, rfl⟩ | ⟨a, b, rfl, rfl⟩ | ⟨a, rfl, rfl⟩ | ⟨h, hl⟩
  · simp [plainT, plainL, unfT, unf, nod_k, nod_i, nod_ks]
  · simp [plainT, plainL, unfT, unf, nod_k, nod_i, nod_ks]
  · simp [plainT, plainL, unfT, unf, nod_k, nod_i, nod_ks]
  · simp only [plainT, unfT, nod_k, nod_i, nod_ks, h]
    rw [hl _ (plainL_len ks)]
/-! sizes -/
theorem unf_sz (k i : Int) (ks : List Tr) : (unf k i ks).sz ≤ 3 + szL ks := by
  rcases unf_cases k i ks with ⟨a, b, rfl, rfl⟩ | ⟨a, b, rfl, rfl⟩ | ⟨a, rfl, rfl⟩ | ⟨h, hl⟩
  · simp [unf, Tr.sz, szL] <;> omega
  · simp [unf, Tr.sz, szL] <;> omega
  · simp [unf, Tr.sz, szL] <;> omega
  · rw [h]; simp [Tr.sz] <;> omega
theorem unf_dp (k i : Int) (ks : List Tr) : (unf k i ks).dp ≤ 3 + dpL ks := by
  rcases unf_cases k i ks with ⟨a, b, rfl, rfl⟩ | ⟨a, b, rfl, rfl⟩ | ⟨a, rfl, rfl⟩ | ⟨h, hl⟩
  · simp [unf, Tr.dp, dpL] <;> omega
  · simp [unf, Tr.dp, dpL] <;> omega
  · simp [unf, Tr.dp, dpL] <;> omega
  · rw [h]; simp [Tr.dp] <;> omega
theorem plain_szL : ∀ l : List Tr, (∀ q ∈ l, (plainT q).sz ≤ 3 * q.sz) → szL (plainL l) ≤ 3 * szL l
  | [], _ => by simp [plainL, szL]
  | t :: r, h => by
    have h1 := h t (by simp)
    have h2 := plain_szL r (fun q hq => h q (by simp [hq]))
    simp only [plainL, szL]; omega
theorem plain_dpL : ∀ l : List Tr, (∀ q ∈ l, (plainT q).dp ≤ 3 * q.dp) → dpL (plainL l) ≤ 3 * dpL l
  | [], _ => by simp [plainL, dpL]
  | t :: r, h => by
    have h1 := h t (by simp)
    have h2 := plain_dpL r (fun q hq => h q (by simp [hq]))
    simp only [plainL, dpL]; omega
theorem plain_sz (t : Tr) : (plainT t).sz ≤ 3 * t.sz := by
  induction t using Tr.ind with
  | h t ih =>
    rw [plainT_eq]
    have h1 := unf_sz t.k t.i (plainL t.ks)
    have h2 := plain_szL t.ks ih
    have h3 := sz_eq t
    omega
theorem plain_dp (t : Tr) : (plainT t).dp ≤ 3 * t.dp := by
  induction t using Tr.ind with
  | h t ih =>
    rw [plainT_eq]
    have h1 := unf_dp t.k t.i (plainL t.ks)
    have h2 := plain_dpL t.ks ih
    have h3 := dp_eq t
    omega
theorem plainL_sz_mem {l : List Tr} {q : Tr} (h : q ∈ l) : (plainT q).sz ≤ szL (plainL l) := by
  induction l with
  | nil => simp at h
  | cons a r ih =>
    rw [plainL, szL]
    rcases List.mem_cons.1 h with rfl | h
    · omega
    · have := ih h; omega
theorem plain_sz_eq (t : Tr) : (plainT t).sz = 1 + szL (plainL (unfT t).ks) := by rw [plain_unf]; rfl
theorem plain_dp_eq (t : Tr) : (plainT t).dp = 1 + dpL (plainL (unfT t).ks) := by rw [plain_unf]; rfl
theorem plain_kid {t q : Tr} (h : q ∈ (unfT t).ks) : (plainT q).sz < (plainT t).sz := by
  have h1 := plain_sz_eq t
  have h2 := plainL_sz_mem h
  omega
/-! shape -/
theorem unf_term (k i : Int) (ks : List Tr) : termB (unf k i ks).k = termB k := by
  rcases unf_cases k i ks with ⟨a, b, rfl, rfl⟩ | ⟨a, b, rfl, rfl⟩ | ⟨a, rfl, rfl⟩ | ⟨h, hl⟩
  · simp [unf, nod_k, termB]
  · simp [unf, nod_k, termB]
  · simp [unf, nod_k, termB]
  · rw [h]; rfl
theorem unf_shp (k i : Int) (ks : List Tr) (hk : kindOk k i ks.length = true) (hs : shpL (kidsTerm k) ks = true) : (unf k i ks).shp = true := by
  rcases unf_cases k i ks with ⟨a, b, rfl, rfl⟩ | ⟨a, b, rfl, rfl⟩ | ⟨a, rfl, rfl⟩ | ⟨h, hl⟩
  · simp [shpL_cons, shpL, kidsTerm] at hs
    simp [unf, nod_shp, nod_k, kindOk, kidsTerm, shpL_cons, shpL, termB, hs]
    simpa [termB] using And.intro hs.1.1 hs.2.1
  · simp [shpL_cons, shpL, kidsTerm] at hs
    simp [unf, nod_shp, nod_k, kindOk, kidsTerm, shpL_cons, shpL, termB, hs]
    simpa [termB] using And.intro hs.1.1 hs.2.1
  · simp [shpL_cons, shpL, kidsTerm] at hs
    simp [kindOk] at hk
    simp [unf, nod_shp, nod_k, kindOk, kidsTerm, shpL_cons, shpL, termB, hs, hk]
    simpa [termB] using hs.1
  · rw [h, nod_shp, hk, hs]; rfl
theorem plain_term (t : Tr) : termB (plainT t).k = termB t.k := by rw [plainT_eq, unf_term]
theorem unfT_shp {t : Tr} (h : t.shp = true) : (unfT t).shp = true := by
  rw [shp_eq, Bool.and_eq_true] at h
  exact unf_shp _ _ _ h.1 h.2
theorem plain_shp (t : Tr) : t.shp = true → (plainT t).shp = true := by
  induction t using Tr.ind with
  | h t ih =>
    intro h
    rw [shp_eq, Bool.and_eq_true] at h
    rw [plainT_eq]
    refine unf_shp _ _ _ (by rw [plainL_len]; exact h.1) ?_
    rw [shpL_all, List.all_eq_true] at h ⊢
    intro q hq
    rw [plainL_map] at hq
    obtain ⟨p, hp, rfl⟩ := List.mem_map.1 hq
    have := h.2 p hp
    simp only [Bool.and_eq_true] at this ⊢
    rw [plain_term]
    exact ⟨this.1, ih p hp this.2⟩
/-- the error of a plain form -/
def plainF (t : Tr) : Nat := if 1000 < (plainT t).sz then 20 else if 100 < (plainT t).dp then 21 else 0
theorem plain_right {t : Tr} (h : t.shp = true) : rightN (plainT t) = plainF t := by
  unfold rightN plainF
  rw [plain_shp t h]
  simp
/-! abbreviations -/
def shortB (k : Int) : Bool := decide (k = 8) || decide (k = 9) || decide (k = 10)
mutual
def shortT : Tr → Bool
  | .node k _ ks => shortB k || shortL ks
def shortL : List Tr → Bool
  | [] => false
  | t :: r => shortT t || shortL r
end
theorem shortT_eq (t : Tr) : shortT t = (shortB t.k || shortL t.ks) := by cases t; rfl
theorem shortL_any : ∀ l : List Tr, shortL l = l.any shortT
  | [] => rfl
  | t :: r => by rw [shortL, shortL_any r]; rfl
theorem shortB_no {k : Int} (h : shortB k = false) : k ≠ 8 ∧ k ≠ 9 ∧ k ≠ 10 := by
  simp [shortB] at h; exact ⟨h.1.1, h.1.2, h.2⟩
theorem unf_id {k i : Int} {ks : List Tr} (h : shortB k = false) : unf k i ks = .node k i ks := by
  obtain ⟨h8, h9, h10⟩ := shortB_no h
  rcases unf_cases k i ks with ⟨a, b, rfl, e⟩ | ⟨a, b, rfl, e⟩ | ⟨a, rfl, e⟩ | ⟨h, hl⟩
  · exact absurd e h8
  · exact absurd e h9
  · exact absurd e h10
  · exact h
theorem plain_id (t : Tr) : shortT t = false → plainT t = t := by
  induction t using Tr.ind with
  | h t ih =>
    intro h
    rw [shortT_eq, Bool.or_eq_false_iff, shortL_any, List.any_eq_false] at h
    have hl : plainL t.ks = t.ks := by
      rw [plainL_map]
      have : ∀ q ∈ t.ks, plainT q = id q := fun q hq => ih q hq (by simpa using h.2 q hq)
      rw [List.map_congr_left this]; simp
    rw [plainT_eq, hl, unf_id h.1, ← Tr.eta]
theorem unf_short {k i : Int} {ks : List Tr} (hk : kindOk k i ks.length = true) (hs : shortL ks = false) : shortT (unf k i ks) = false := by
  rcases unf_cases k i ks with ⟨a, b, rfl, rfl⟩ | ⟨a, b, rfl, rfl⟩ | ⟨a, rfl, rfl⟩ | ⟨h, hl⟩
  · simp [shortL] at hs; simp [unf, shortT, shortL, shortB, hs]
  · simp [shortL] at hs; simp [unf, shortT, shortL, shortB, hs]
  · simp [shortL] at hs; simp [unf, shortT, shortL, shortB, hs]
  · rw [h, shortT_eq]
    simp only [nod_k, nod_ks]
    rw [hs]
    have : shortB k = false := by
      cases hb : shortB k with
      | false => rfl
      | true =>
        exfalso
        simp [shortB] at hb
        rcases hb with (rfl | rfl) | rfl
        · simp [kindOk] at hk
          obtain ⟨a, b, rfl⟩ := len_two (by omega : ks.length = 2)
          simp [unf] at h
        · simp [kindOk] at hk
          obtain ⟨a, b, rfl⟩ := len_two (by omega : ks.length = 2)
          simp [unf] at h
        · simp [kindOk] at hk
          obtain ⟨a, rfl⟩ := len_one (by omega : ks.length = 1)
          simp [unf] at h
    rw [this]; rfl
theorem plain_short (t : Tr) : t.shp = true → shortT (plainT t) = false := by
  induction t using Tr.ind with
  | h t ih =>
    intro h
    have hk := vok_kids h
    rw [shp_eq, Bool.and_eq_true] at h
    rw [plainT_eq]
    refine unf_short (by rw [plainL_len]; exact h.1) ?_
    rw [shortL_any, List.any_eq_false]
    intro q hq
    rw [plainL_map] at hq
    obtain ⟨p, hp, rfl⟩ := List.mem_map.1 hq
    rw [ih p hp (hk p hp)]; simp
theorem plain_plain {t : Tr} (h : t.shp = true) : plainT (plainT t) = plainT t := plain_id _ (plain_short t h)
/-! free variables -/
theorem fre_node (k i : Int) (ks : List Tr) : freeT (.node k i ks) = if k = 1 then withN 0 i else if k = 7 ∨ k = 10 then withoutN (freeL ks) i else freeL ks := freeT_eq _
theorem unf_free (k i : Int) (ks : List Tr) : freeT (unf k i ks) = freeT (.node k i ks) := by
  rcases unf_cases k i ks with ⟨a, b, rfl, rfl⟩ | ⟨a, b, rfl, rfl⟩ | ⟨a, rfl, rfl⟩ | ⟨h, hl⟩
  · simp [unf, fre_node, freeL_cons, freeL_nil]
  · simp [unf, fre_node, freeL_cons, freeL_nil]
  · simp [unf, fre_node, freeL_cons, freeL_nil]
  · rw [h]
theorem plain_freeL : ∀ l : List Tr, (∀ q ∈ l, freeT (plainT q) = freeT q) → freeL (plainL l) = freeL l
  | [], _ => rfl
  | t :: r, h => by rw [plainL, freeL_cons, freeL_cons, h t (by simp), plain_freeL r (fun q hq => h q (by simp [hq]))]
theorem plain_free (t : Tr) : freeT (plainT t) = freeT t := by
  induction t using Tr.ind with
  | h t ih =>
    rw [plainT_eq, unf_free, freeT_eq, freeT_eq t]
    simp only [nod_k, nod_i, nod_ks]
    rw [plain_freeL t.ks ih]
    rfl
/-- a formula as a unit may have one has a plain form -/
theorem plain_fits {t : Tr} (h1 : t.sz ≤ 300) (h2 : t.dp ≤ 30) : plainF t = 0 := by
  have := plain_sz t
  have := plain_dp t
  unfold plainF
  rw [if_neg (by omega), if_neg (by omega)]
end Go.Proofs.Ytjdhmfpkhijkeaa
