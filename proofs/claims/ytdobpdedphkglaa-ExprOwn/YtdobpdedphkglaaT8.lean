/- What putting another part in does to size, depth and shape, as plain mathematics. No program is named. -/
import Derived.Test.YtdobpdedphkglaaT7
import Derived.Test.YtdobpdedphkglaaE22
namespace Go.Proofs.Ytdobpdedphkglaa
theorem szL_set (ks : List Tr) : ∀ (m : Nat) (h : m < ks.length) (y : Tr), szL (ks.set m y) + ks[m].sz = szL ks + y.sz := by
  induction ks with
  | nil => intro m h; simp at h
  | cons a r ih =>
    intro m h y
    cases m with
    | zero => simp [szL]; omega
    | succ m =>
      have := ih m (by simpa using h) y
      simp only [List.set_cons_succ, szL, List.getElem_cons_succ]; omega
theorem dpL_mem {ks : List Tr} {q : Tr} (h : q ∈ ks) : q.dp ≤ dpL ks := by
  induction ks with
  | nil => simp at h
  | cons a r ih =>
    simp only [dpL]
    rcases List.mem_cons.1 h with rfl | h
    · omega
    · have := ih h; omega
theorem dpL_set_le (ks : List Tr) : ∀ (m : Nat) (y : Tr), dpL (ks.set m y) ≤ max (dpL ks) y.dp := by
  induction ks with
  | nil => intro m y; simp [dpL]
  | cons a r ih =>
    intro m y
    cases m with
    | zero => simp only [List.set_cons_zero, dpL]; omega
    | succ m =>
      have := ih m y
      simp only [List.set_cons_succ, dpL]; omega
theorem putAt_sz (x : Tr) : ∀ (zs : List Int) (t q : Tr), partAt t zs = some q → (putAt x t zs).sz + q.sz = t.sz + x.sz := by
  intro zs
  induction zs with
  | nil => intro t q h; rw [partAt_nil] at h; cases h; rw [putAt_nil]; omega
  | cons i r ih =>
    intro t q h
    obtain ⟨m, rfl, hm, hp⟩ := partAt_some h
    rw [putAt_in x t m r hm]
    have := ih _ _ hp
    have := szL_set t.ks m hm (putAt x t.ks[m] r)
    rw [sz_eq, sz_eq t]
    show 1 + szL (t.ks.set m _) + q.sz = _
    omega
theorem putAt_dp_ge (x : Tr) : ∀ (zs : List Int) (t q : Tr), partAt t zs = some q → zs.length + x.dp ≤ (putAt x t zs).dp := by
  intro zs
  induction zs with
  | nil => intro t q h; rw [putAt_nil]; simp
  | cons i r ih =>
    intro t q h
    obtain ⟨m, rfl, hm, hp⟩ := partAt_some h
    rw [putAt_in x t m r hm]
    have h1 := ih _ _ hp
    have h2 : (putAt x t.ks[m] r).dp ≤ dpL (t.ks.set m (putAt x t.ks[m] r)) := dpL_mem (List.mem_set hm _)
    rw [dp_eq (Tr.node _ _ _)]
    show r.length + 1 + x.dp ≤ 1 + dpL (t.ks.set m _)
    omega
theorem putAt_dp_le (x : Tr) : ∀ (zs : List Int) (t q : Tr), partAt t zs = some q → (putAt x t zs).dp ≤ max t.dp (zs.length + x.dp) := by
  intro zs
  induction zs with
  | nil => intro t q h; rw [putAt_nil]; simp; omega
  | cons i r ih =>
    intro t q h
    obtain ⟨m, rfl, hm, hp⟩ := partAt_some h
    rw [putAt_in x t m r hm]
    have h1 := ih _ _ hp
    have h2 := dpL_set_le t.ks m (putAt x t.ks[m] r)
    have h3 := kid_dp t m hm
    rw [dp_eq t] at h3 ⊢
    rw [dp_eq]
    show 1 + dpL (t.ks.set m _) ≤ max (1 + dpL t.ks) (r.length + 1 + x.dp)
    omega
theorem putAt_k (x : Tr) {zs : List Int} {t q : Tr} (h : partAt t zs = some q) (hk : termB q.k = termB x.k) : termB (putAt x t zs).k = termB t.k := by
  cases zs with
  | nil => rw [partAt_nil] at h; cases h; rw [putAt_nil, hk]
  | cons i r =>
    obtain ⟨m, rfl, hm, hp⟩ := partAt_some h
    rw [putAt_in x t m r hm]; rfl
theorem putAt_shp (x : Tr) (hx : x.shp = true) : ∀ (zs : List Int) (t q : Tr), partAt t zs = some q → t.shp = true → termB q.k = termB x.k → (putAt x t zs).shp = true := by
  intro zs
  induction zs with
  | nil => intro t q h _ _; rw [putAt_nil]; exact hx
  | cons i r ih =>
    intro t q h hs hk
    obtain ⟨m, rfl, hm, hp⟩ := partAt_some h
    rw [putAt_in x t m r hm]
    rw [shp_eq, shpL_all, Bool.and_eq_true] at hs ⊢
    have hall := List.all_eq_true.1 hs.2
    refine ⟨by simpa [Tr.k, Tr.i, Tr.ks] using hs.1, ?_⟩
    show ((t.ks.set m (putAt x t.ks[m] r)).all fun q => (termB q.k == kidsTerm t.k) && q.shp) = true
    refine List.all_eq_true.2 fun y hy => ?_
    rcases List.mem_or_eq_of_mem_set hy with hy | rfl
    · exact hall y hy
    · have h0 := hall t.ks[m] (List.getElem_mem hm)
      rw [Bool.and_eq_true] at h0 ⊢
      exact ⟨by rw [putAt_k x hp hk]; exact h0.1, ih _ _ hp h0.2 hk⟩
theorem partAt_shp : ∀ (zs : List Int) (t q : Tr), partAt t zs = some q → t.shp = true → q.shp = true := by
  intro zs
  induction zs with
  | nil => intro t q h; rw [partAt_nil] at h; cases h; exact id
  | cons i r ih =>
    intro t q h hs
    obtain ⟨m, rfl, hm, hp⟩ := partAt_some h
    rw [shp_eq, shpL_all, Bool.and_eq_true] at hs
    have h0 := List.all_eq_true.1 hs.2 t.ks[m] (List.getElem_mem hm)
    rw [Bool.and_eq_true] at h0
    exact ih _ _ hp h0.2
theorem partAt_dp : ∀ (zs : List Int) (t q : Tr), partAt t zs = some q → zs.length + q.dp ≤ t.dp := by
  intro zs
  induction zs with
  | nil => intro t q h; rw [partAt_nil] at h; cases h; simp
  | cons i r ih =>
    intro t q h
    obtain ⟨m, rfl, hm, hp⟩ := partAt_some h
    have := ih _ _ hp
    have := kid_dp t m hm
    simp; omega
theorem right_zero3 {t : Tr} (h : rightN t = 0) : t.sz ≤ 1000 ∧ t.dp ≤ 100 ∧ t.shp = true := by
  have := (ok_iff t).2 h
  unfold okT at this
  simpa [and_assoc] using this
theorem right_of {t : Tr} (h1 : t.sz ≤ 1000) (h2 : t.dp ≤ 100) (h3 : t.shp = true) : rightN t = 0 := by
  unfold rightN; rw [if_neg (by omega), if_neg (by omega), if_pos h3]
theorem sort_same {a b : Int} (ha : 1 ≤ a ∧ a ≤ 10) (hb : 1 ≤ b ∧ b ≤ 10) : sortN a = sortN b ↔ termB a = termB b := by
  have h1 := sort_term a
  have h2 := sort_term b
  have h3 := sort_formula a
  have h4 := sort_formula b
  have c1 : sortN a = 1 ∨ sortN a = 2 := by
    unfold sortN
    by_cases h : 1 ≤ a ∧ a ≤ 2
    · rw [if_pos h]; exact .inl rfl
    · rw [if_neg h, if_pos (by omega)]; exact .inr rfl
  have c2 : sortN b = 1 ∨ sortN b = 2 := by
    unfold sortN
    by_cases h : 1 ≤ b ∧ b ≤ 2
    · rw [if_pos h]; exact .inl rfl
    · rw [if_neg h, if_pos (by omega)]; exact .inr rfl
  cases e1 : termB a <;> cases e2 : termB b <;> simp [e1, e2, ha, hb] at h1 h2 h3 h4 ⊢ <;> omega
/-- what Put answers -/

def putR (t x : Tr) (zs : List Int) : Tr × Nat :=
  if rightN t ≠ 0 then (zeroT, rightN t) else if rightN x ≠ 0 then (zeroT, rightN x) else
    match partAt t zs with
    | none => (zeroT, 24)
    | some q => if termB q.k ≠ termB x.k then (zeroT, 40) else if rightN (putAt x t zs) ≠ 0 then (zeroT, rightN (putAt x t zs)) else (putAt x t zs, 0)
theorem putR_many {t x q : Tr} {zs : List Int} (h1 : rightN t = 0) (h2 : rightN x = 0) (h3 : partAt t zs = some q) (h4 : sortN q.k = sortN x.k) (h5 : 1000 < t.sz - q.sz + x.sz) : putR t x zs = (zeroT, 20) := by
  have hs := putAt_sz x zs t q h3
  have hq := partAt_sz zs t q h3
  have e : rightN (putAt x t zs) = 20 := by unfold rightN; rw [if_pos (by omega)]
  have k1 := kind_of_shp q (partAt_shp zs t q h3 (right_zero3 h1).2.2)
  have k2 := kind_of_shp x (right_zero3 h2).2.2
  have k := (sort_same ⟨k1.1, k1.2.1⟩ ⟨k2.1, k2.2.1⟩).1 h4
  unfold putR
  rw [if_neg (by simp [h1]), if_neg (by simp [h2]), h3]
  simp only []
  rw [if_neg (by simp [k]), if_pos (by rw [e]; simp), e]
theorem putR_deep {t x q : Tr} {zs : List Int} (h1 : rightN t = 0) (h2 : rightN x = 0) (h3 : partAt t zs = some q) (h4 : sortN q.k = sortN x.k) (h5 : ¬ 1000 < t.sz - q.sz + x.sz) (h6 : 100 < zs.length + x.dp) : putR t x zs = (zeroT, 21) := by
  have hs := putAt_sz x zs t q h3
  have hq := partAt_sz zs t q h3
  have hd := putAt_dp_ge x zs t q h3
  have e : rightN (putAt x t zs) = 21 := by unfold rightN; rw [if_neg (by omega), if_pos (by omega)]
  have k1 := kind_of_shp q (partAt_shp zs t q h3 (right_zero3 h1).2.2)
  have k2 := kind_of_shp x (right_zero3 h2).2.2
  have k := (sort_same ⟨k1.1, k1.2.1⟩ ⟨k2.1, k2.2.1⟩).1 h4
  unfold putR
  rw [if_neg (by simp [h1]), if_neg (by simp [h2]), h3]
  simp only []
  rw [if_neg (by simp [k]), if_pos (by rw [e]; simp), e]
theorem putR_ok {t x q : Tr} {zs : List Int} (h1 : rightN t = 0) (h2 : rightN x = 0) (h3 : partAt t zs = some q) (h4 : sortN q.k = sortN x.k) (h5 : ¬ 1000 < t.sz - q.sz + x.sz) (h6 : ¬ 100 < zs.length + x.dp) : putR t x zs = (putAt x t zs, 0) ∧ rightN (putAt x t zs) = 0 := by
  have hs := putAt_sz x zs t q h3
  have hq := partAt_sz zs t q h3
  have hd := putAt_dp_le x zs t q h3
  have k1 := kind_of_shp q (partAt_shp zs t q h3 (right_zero3 h1).2.2)
  have k2 := kind_of_shp x (right_zero3 h2).2.2
  have k := (sort_same ⟨k1.1, k1.2.1⟩ ⟨k2.1, k2.2.1⟩).1 h4
  have r1 := right_zero3 h1
  have r2 := right_zero3 h2
  have e : rightN (putAt x t zs) = 0 := right_of (by omega) (by omega) (putAt_shp x r2.2.2 zs t q h3 r1.2.2 k)
  refine ⟨?_, e⟩
  unfold putR
  rw [if_neg (by simp [h1]), if_neg (by simp [h2]), h3]
  simp only []
  rw [if_neg (by simp [k]), if_neg (by simp [e])]
theorem putR_sort {t x q : Tr} {zs : List Int} (h1 : rightN t = 0) (h2 : rightN x = 0) (h3 : partAt t zs = some q) (h4 : ¬ sortN q.k = sortN x.k) : putR t x zs = (zeroT, 40) := by
  have k1 := kind_of_shp q (partAt_shp zs t q h3 (right_zero3 h1).2.2)
  have k2 := kind_of_shp x (right_zero3 h2).2.2
  have k : termB q.k ≠ termB x.k := fun e => h4 ((sort_same ⟨k1.1, k1.2.1⟩ ⟨k2.1, k2.2.1⟩).2 e)
  unfold putR
  rw [if_neg (by simp [h1]), if_neg (by simp [h2]), h3]
  simp only []
  rw [if_pos k]
theorem putR_path {t x : Tr} {zs : List Int} (h1 : rightN t = 0) (h2 : rightN x = 0) (h3 : partAt t zs = none) : putR t x zs = (zeroT, 24) := by
  unfold putR
  rw [if_neg (by simp [h1]), if_neg (by simp [h2]), h3]
theorem putR_first {t x : Tr} {zs : List Int} {r : Nat} (h1 : (if rightN t ≠ 0 then rightN t else rightN x) = r) (hr : r ≠ 0) : putR t x zs = (zeroT, r) := by
  unfold putR
  by_cases h : rightN t = 0
  · simp only [h, ne_eq, not_true_eq_false, if_false] at h1 ⊢
    rw [if_pos (by rw [h1]; exact hr), h1]
  · simp only [h, ne_eq, not_false_eq_true, if_true] at h1 ⊢
    rw [h1]
/-! ### putting in and looking up -/
theorem partAt_put (x : Tr) : ∀ (zs : List Int) (t q : Tr), partAt t zs = some q → partAt (putAt x t zs) zs = some x := by
  intro zs
  induction zs with
  | nil => intro t q h; rw [putAt_nil, partAt_nil]
  | cons i r ih =>
    intro t q h
    obtain ⟨m, rfl, hm, hp⟩ := partAt_some h
    rw [putAt_in x t m r hm]
    have hl : m < (Tr.node t.k t.i (t.ks.set m (putAt x t.ks[m] r))).ks.length := by simpa [Tr.ks] using hm
    rw [partAt_in _ (m : Int) r (by omega) (by simpa using hl)]
    have : (Tr.node t.k t.i (t.ks.set m (putAt x t.ks[m] r))).ks[(m : Int).toNat]'(by simpa using hl) = putAt x t.ks[m] r := by simp [Tr.ks]
    rw [this]
    exact ih _ _ hp
theorem putAt_back (x : Tr) : ∀ (zs : List Int) (t q : Tr), partAt t zs = some q → putAt q (putAt x t zs) zs = t := by
  intro zs
  induction zs with
  | nil => intro t q h; rw [partAt_nil] at h; cases h; rw [putAt_nil]
  | cons i r ih =>
    intro t q h
    obtain ⟨m, rfl, hm, hp⟩ := partAt_some h
    rw [putAt_in x t m r hm]
    have hl : m < (Tr.node t.k t.i (t.ks.set m (putAt x t.ks[m] r))).ks.length := by simpa [Tr.ks] using hm
    rw [putAt_in q _ m r hl]
    have : (Tr.node t.k t.i (t.ks.set m (putAt x t.ks[m] r))).ks[m]'hl = putAt x t.ks[m] r := by simp [Tr.ks]
    rw [this, ih _ _ hp]
    show Tr.node t.k t.i ((t.ks.set m (putAt x t.ks[m] r)).set m t.ks[m]) = t
    rw [List.set_set, List.set_getElem_self]
    exact t.eta.symm
/-- a path that leads elsewhere, from place k on -/
theorem partAt_other (x : Tr) : ∀ (zs ys : List Int) (t q : Tr) (k : Nat) (h1 : k < zs.length) (h2 : k < ys.length), zs.take k = ys.take k → zs[k] ≠ ys[k] → partAt t zs = some q → partAt (putAt x t zs) ys = partAt t ys := by
  intro zs
  induction zs with
  | nil => intro ys t q k h; simp at h
  | cons i r ih =>
    intro ys t q k h1 h2 he hne h
    cases ys with
    | nil => simp at h2
    | cons j s =>
      obtain ⟨m, rfl, hm, hp⟩ := partAt_some h
      rw [putAt_in x t m r hm]
      have hlen : (Tr.node t.k t.i (t.ks.set m (putAt x t.ks[m] r))).ks.length = t.ks.length := by simp [Tr.ks]
      by_cases hj : 0 ≤ j ∧ j.toNat < t.ks.length
      · have hj' : j.toNat < (Tr.node t.k t.i (t.ks.set m (putAt x t.ks[m] r))).ks.length := by rw [hlen]; exact hj.2
        rw [partAt_in _ j s hj.1 hj', partAt_in t j s hj.1 hj.2]
        cases k with
        | zero =>
          simp at hne
          have hjm : m ≠ j.toNat := by omega
          have : (Tr.node t.k t.i (t.ks.set m (putAt x t.ks[m] r))).ks[j.toNat]'hj' = t.ks[j.toNat] := by simp [Tr.ks, hjm]
          rw [this]
        | succ k =>
          simp at he hne
          obtain ⟨he1, he2⟩ := he
          have hjm : j.toNat = m := by omega
          have : (Tr.node t.k t.i (t.ks.set m (putAt x t.ks[m] r))).ks[j.toNat]'hj' = putAt x t.ks[m] r := by simp [Tr.ks, hjm]
          rw [this]
          have e2 : t.ks[j.toNat] = t.ks[m] := by simp [hjm]
          rw [e2]
          exact ih s _ _ k (by simpa using h1) (by simpa using h2) he2 (by simpa using hne) hp
      · rw [partAt_out _ j s (by rw [hlen]; exact hj), partAt_out t j s hj]
end Go.Proofs.Ytdobpdedphkglaa
