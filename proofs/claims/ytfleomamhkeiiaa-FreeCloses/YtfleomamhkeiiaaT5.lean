/- Heads of trees, read one by one. -/
import Derived.Test.YtfleomamhkeiiaaT4
import Derived.Test.YtfleomamhkeiiaaMath4
namespace Go.Proofs.Ytfleomamhkeiiaa
/-- a head: kind, number, how many kids -/
structure Hd where
  k : Int
  i : Int
  n : Nat
def Tr.hd (t : Tr) : Hd := ⟨t.k, t.i, t.ks.length⟩
mutual
def Tr.hds : Tr → List Hd
  | .node k i ks => ⟨k, i, ks.length⟩ :: hdsL ks
def hdsL : List Tr → List Hd
  | [] => []
  | t :: r => t.hds ++ hdsL r
end
theorem hds_eq (t : Tr) : t.hds = t.hd :: hdsL t.ks := by cases t; simp [Tr.hds, Tr.hd, Tr.ks, Tr.k, Tr.i]
theorem hdsL_append (a b : List Tr) : hdsL (a ++ b) = hdsL a ++ hdsL b := by
  induction a with
  | nil => simp [hdsL]
  | cons x r ih => simp [hdsL, ih]
mutual
theorem hds_len : (t : Tr) → t.hds.length = t.sz
  | .node k i ks => by rw [hds_eq, sz_eq]; simp only [List.length_cons, Tr.ks]; rw [hdsL_len ks]; omega
theorem hdsL_len : (l : List Tr) → (hdsL l).length = szL l
  | [] => by simp [hdsL, szL]
  | t :: r => by simp only [hdsL, szL, List.length_append]; rw [hds_len t, hdsL_len r]
end
/-- a list of trees, its first one opened -/
theorem hdsL_open (t : Tr) (r : List Tr) : hdsL (t :: r) = t.hd :: hdsL (t.ks ++ r) := by
  rw [hdsL, hds_eq, hdsL_append]; rfl
theorem szL_open (t : Tr) (r : List Tr) : szL (t :: r) = 1 + szL (t.ks ++ r) := by
  rw [szL, sz_eq, szL_append]; omega
theorem encL_open (t : Tr) (r : List Tr) : encL (t :: r) = putN (headN t) ++ encL (t.ks ++ r) := by
  rw [encL, enc_eq, encL_append, List.append_assoc]
/-- heads tell the trees -/
theorem hdsL_inj : ∀ (n : Nat) (a b : List Tr), szL a ≤ n → a.length = b.length → hdsL a = hdsL b → a = b := by
  intro n
  induction n with
  | zero =>
    intro a b h hl _
    cases a with
    | nil => cases b with
      | nil => rfl
      | cons x r => simp at hl
    | cons x r => rw [szL_open] at h; omega
  | succ n ih =>
    intro a b h hl he
    cases a with
    | nil => cases b with
      | nil => rfl
      | cons x r => simp at hl
    | cons x r => cases b with
      | nil => simp at hl
      | cons y s =>
        rw [hdsL_open, hdsL_open] at he
        rw [szL_open] at h
        injection he with h1 h2
        unfold Tr.hd at h1
        injection h1 with e1 e2 e3
        have := ih _ _ (by omega) (by simp; simp at hl; omega) h2
        have e := List.append_inj this e3
        rw [Tr.eta x, Tr.eta y, e1, e2, e.1, e.2]
theorem hds_inj (a b : Tr) (h : a.hds = b.hds) : a = b := by
  have := hdsL_inj (szL [a]) [a] [b] (Nat.le_refl _) rfl (by simp [hdsL, h])
  simpa using this
/-- the head that a number holds -/
def hdOf (v : Nat) : Hd := ⟨((v / 16777216 : Nat) : Int), ((v / 256 % 65536 : Nat) : Int), v % 256⟩
/-- heads read one by one: r may still come, m are asked for -/
def rdH (bs : List Nat) : Nat → Nat → Nat → Except Nat (List Hd × Nat)
  | _, 0, p => .ok ([], p)
  | 0, _ + 1, _ => .error 20
  | r + 1, m + 1, p =>
    if (getN (bs.drop p)).err ≠ 0 then .error (getN (bs.drop p)).err
    else if 4294967295 < (getN (bs.drop p)).val then .error 11
    else match rdH bs r (m + (getN (bs.drop p)).val % 256) (p + (getN (bs.drop p)).len) with
      | .error e => .error e
      | .ok (hs, q) => .ok (hdOf (getN (bs.drop p)).val :: hs, q)
theorem rdH_zero (bs : List Nat) (r p : Nat) : rdH bs r 0 p = .ok ([], p) := by cases r <;> rfl
theorem rdH_full (bs : List Nat) (m p : Nat) : rdH bs 0 (m + 1) p = .error 20 := rfl
theorem rdH_err (bs : List Nat) (r m p : Nat) (h : (getN (bs.drop p)).err ≠ 0) : rdH bs (r + 1) (m + 1) p = .error (getN (bs.drop p)).err := by rw [rdH, if_pos h]
theorem rdH_big (bs : List Nat) (r m p : Nat) (h : (getN (bs.drop p)).err = 0) (h1 : 4294967295 < (getN (bs.drop p)).val) : rdH bs (r + 1) (m + 1) p = .error 11 := by
  rw [rdH, if_neg (by simp [h]), if_pos h1]
theorem rdH_more (bs : List Nat) (r m p : Nat) (h : (getN (bs.drop p)).err = 0) (h1 : ¬ 4294967295 < (getN (bs.drop p)).val) : rdH bs (r + 1) (m + 1) p =
    match rdH bs r (m + (getN (bs.drop p)).val % 256) (p + (getN (bs.drop p)).len) with
      | .error e => .error e
      | .ok (hs, q) => .ok (hdOf (getN (bs.drop p)).val :: hs, q) := by
  rw [rdH, if_neg (by simp [h]), if_neg h1]
def joinH (x : List Hd × Nat) (y : Except Nat (List Hd × Nat)) : Except Nat (List Hd × Nat) :=
  match y with
  | .error e => .error e
  | .ok (hs, q) => .ok (x.1 ++ hs, q)
/-- a + b are read as a are, and then b -/
theorem rdH_split (bs : List Nat) : ∀ (r a b p : Nat), rdH bs r (a + b) p =
    match rdH bs r a p with
      | .error e => .error e
      | .ok (hs, q) => match rdH bs (r - hs.length) b q with
        | .error e => .error e
        | .ok (hs', q') => .ok (hs ++ hs', q') := by
  intro r
  induction r with
  | zero =>
    intro a b p
    cases a with
    | zero => rw [rdH_zero]; simp; cases rdH bs 0 b p with
      | error e => rfl
      | ok x => rfl
    | succ a => rw [show a + 1 + b = a + b + 1 by omega, rdH_full, rdH_full]
  | succ r ih =>
    intro a b p
    cases a with
    | zero => rw [rdH_zero]; simp; cases rdH bs (r + 1) b p with
      | error e => rfl
      | ok x => rfl
    | succ a =>
      rw [show a + 1 + b = a + b + 1 by omega]
      by_cases h : (getN (bs.drop p)).err = 0
      · by_cases h1 : 4294967295 < (getN (bs.drop p)).val
        · rw [rdH_big _ _ _ _ h h1, rdH_big _ _ _ _ h h1]
        · rw [rdH_more _ _ _ _ h h1, rdH_more _ _ _ _ h h1, show a + b + (getN (bs.drop p)).val % 256 = (a + (getN (bs.drop p)).val % 256) + b by omega, ih]
          cases rdH bs r (a + (getN (bs.drop p)).val % 256) (p + (getN (bs.drop p)).len) with
          | error e => rfl
          | ok x =>
            obtain ⟨hs, q⟩ := x
            simp only [List.length_cons, Nat.add_sub_add_right]
            cases rdH bs (r - hs.length) b q with
            | error e => rfl
            | ok y => rfl
      · rw [rdH_err _ _ _ _ h, rdH_err _ _ _ _ h]
/-- what is read is some trees, and their bytes -/
def InB (t : Tr) : Prop := HeadOk t
mutual
def Tr.heads : Tr → Prop
  | .node k i ks => HeadOk (.node k i ks) ∧ headsL ks
def headsL : List Tr → Prop
  | [] => True
  | t :: r => t.heads ∧ headsL r
end
theorem heads_eq (t : Tr) : t.heads ↔ HeadOk t ∧ headsL t.ks := by cases t; simp [Tr.heads, Tr.ks]
theorem headsL_append (a b : List Tr) : headsL (a ++ b) ↔ headsL a ∧ headsL b := by
  induction a with
  | nil => simp [headsL]
  | cons x r ih => simp only [List.cons_append, headsL, ih]; exact and_assoc.symm
theorem headsL_iff (l : List Tr) : headsL l ↔ ∀ q ∈ l, q.heads := by
  induction l with
  | nil => simp [headsL]
  | cons x r ih => simp [headsL, ih]
theorem shp_heads (t : Tr) : t.shp = true → t.heads := by
  induction t using Tr.ind with
  | h t ih =>
    intro h
    refine (heads_eq t).2 ⟨headOk_shp t h, (headsL_iff _).2 fun q hq => ih q hq ?_⟩
    obtain ⟨m, hm, rfl⟩ := List.getElem_of_mem hq
    exact shp_kid t h m hm
theorem head_join (v : Nat) : (((v / 16777216 : Nat) : Int) * 16777216 + ((v / 256 % 65536 : Nat) : Int) * 256 + ((v % 256 : Nat) : Int)).toNat = v := by omega
def nodeOf (v : Nat) (ks : List Tr) : Tr := .node ((v / 16777216 : Nat) : Int) ((v / 256 % 65536 : Nat) : Int) ks
theorem nodeOf_ks (v : Nat) (ks : List Tr) : (nodeOf v ks).ks = ks := rfl
theorem nodeOf_head (v : Nat) (ks : List Tr) (hk : ks.length = v % 256) : headN (nodeOf v ks) = v := by
  have := head_join v
  unfold headN nodeOf
  simp only [Tr.k, Tr.i, Tr.ks, hk]
  exact this
theorem nodeOf_ok (v : Nat) (ks : List Tr) (hk : ks.length = v % 256) (hv : v ≤ 4294967295) : HeadOk (nodeOf v ks) := by
  have h1 : v / 16777216 ≤ 255 := by omega
  have h2 : v / 256 % 65536 ≤ 65535 := by omega
  have h3 : v % 256 ≤ 255 := by omega
  unfold HeadOk nodeOf
  simp only [Tr.k, Tr.i, Tr.ks, hk]
  generalize v / 16777216 = x at *
  generalize v / 256 % 65536 = y at *
  generalize v % 256 = z at *
  omega
theorem nodeOf_hd (v : Nat) (ks : List Tr) (hk : ks.length = v % 256) : (nodeOf v ks).hd = hdOf v := by
  unfold Tr.hd hdOf nodeOf
  simp only [Tr.k, Tr.i, Tr.ks, hk]
theorem rdH_trees (bs : List Nat) (hb : ∀ b ∈ bs, b < 256) : ∀ (r m p : Nat) (hs : List Hd) (q : Nat), rdH bs r m p = .ok (hs, q) → ∃ ts : List Tr, ts.length = m ∧ hdsL ts = hs ∧ headsL ts ∧ szL ts ≤ r ∧ (p ≤ bs.length → q ≤ bs.length ∧ bs.drop p = encL ts ++ bs.drop q) := by
  intro r
  induction r with
  | zero =>
    intro m p hs q h
    cases m with
    | zero =>
      rw [rdH_zero] at h
      injection h with h
      injection h with h1 h2
      subst h1 h2
      exact ⟨[], rfl, rfl, trivial, Nat.le_refl _, fun hp => ⟨hp, rfl⟩⟩
    | succ m => rw [rdH_full] at h; cases h
  | succ r ih =>
    intro m p hs q h
    cases m with
    | zero =>
      rw [rdH_zero] at h
      injection h with h
      injection h with h1 h2
      subst h1 h2
      exact ⟨[], rfl, rfl, trivial, Nat.zero_le _, fun hp => ⟨hp, rfl⟩⟩
    | succ m =>
      by_cases he : (getN (bs.drop p)).err = 0
      · by_cases h1 : 4294967295 < (getN (bs.drop p)).val
        · rw [rdH_big _ _ _ _ he h1] at h; cases h
        · rw [rdH_more _ _ _ _ he h1] at h
          have hdrop : ∀ b ∈ bs.drop p, b < 256 := fun b hb' => hb b (List.mem_of_mem_drop hb')
          have gb := getN_back (bs.drop p) hdrop he
          obtain ⟨v, hv⟩ : ∃ v, v = (getN (bs.drop p)).val := ⟨_, rfl⟩
          obtain ⟨l, hl⟩ : ∃ l, l = (getN (bs.drop p)).len := ⟨_, rfl⟩
          rw [← hv, ← hl] at h gb
          rw [← hv] at h1
          cases hr : rdH bs r (m + v % 256) (p + l) with
          | error e => rw [hr] at h; cases h
          | ok x =>
            obtain ⟨hs', q'⟩ := x
            rw [hr] at h
            injection h with h
            injection h with h2 h3
            subst h2 h3
            obtain ⟨ts, e1, e2, e3, e4, e5⟩ := ih _ _ _ _ hr
            have el : (ts.take (v % 256)).length = v % 256 := by simp; omega
            have hok := nodeOf_ok v _ el (by omega)
            have hn := nodeOf_head v _ el
            have hhd := nodeOf_hd v _ el
            have tks := nodeOf_ks v (ts.take (v % 256))
            obtain ⟨t, ht⟩ : ∃ t, t = nodeOf v (ts.take (v % 256)) := ⟨_, rfl⟩
            rw [← ht] at hok hn hhd tks
            clear ht
            have happ : t.ks ++ ts.drop (v % 256) = ts := by rw [tks, List.take_append_drop]
            refine ⟨t :: ts.drop (v % 256), by simp; omega, ?_, ?_, ?_, ?_⟩
            · rw [hdsL_open, happ, e2, hhd]
            · rw [headsL]
              rw [← happ, headsL_append] at e3
              exact ⟨(heads_eq t).2 ⟨hok, e3.1⟩, e3.2⟩
            · rw [szL_open, happ]; omega
            · intro hp
              obtain ⟨_, g2, g3, g4⟩ := gb
              rw [List.length_drop] at g3
              obtain ⟨k1, k2⟩ := e5 (by omega)
              refine ⟨k1, ?_⟩
              rw [encL_open, happ, hn, g4, List.append_assoc, ← k2, ← List.drop_drop, List.take_append_drop]
      · rw [rdH_err _ _ _ _ he] at h; cases h
/-- the bytes of trees are read as their heads -/
theorem rdH_enc (bs : List Nat) : ∀ (r : Nat) (ts : List Tr) (p : Nat) (more : List Nat), szL ts ≤ r → headsL ts → bs.drop p = encL ts ++ more → rdH bs r ts.length p = .ok (hdsL ts, p + (encL ts).length) := by
  intro r
  induction r with
  | zero =>
    intro ts p more h _ _
    cases ts with
    | nil => rw [List.length_nil, rdH_zero]; rfl
    | cons t r => rw [szL_open] at h; omega
  | succ r ih =>
    intro ts p more h hh he
    cases ts with
    | nil => rw [List.length_nil, rdH_zero]; rfl
    | cons t rs =>
      rw [szL_open] at h
      rw [headsL, heads_eq] at hh
      obtain ⟨⟨ho, hk⟩, hr⟩ := hh
      have hlt := (head_of t ho).2
      have hU : U64 (headN t) := by unfold U64; omega
      rw [encL_open, List.append_assoc] at he
      have g := getN_put (headN t) (encL (t.ks ++ rs) ++ more) hU
      rw [← he] at g
      have hhd : hdOf (headN t) = t.hd ∧ headN t % 256 = t.ks.length := by
        obtain ⟨⟨a1, a2⟩, ⟨a3, a4⟩, a5, a6⟩ := ho
        have hv := (head_of t ⟨⟨a1, a2⟩, ⟨a3, a4⟩, a5, a6⟩).1
        unfold hdOf Tr.hd
        generalize headN t = v at *
        have e1 : ((v / 16777216 : Nat) : Int) = t.k := by omega
        have e2 : ((v / 256 % 65536 : Nat) : Int) = t.i := by omega
        have e3 : v % 256 = t.ks.length := by omega
        rw [e1, e2, e3]
        exact ⟨rfl, rfl⟩
      have := ih (t.ks ++ rs) (p + (putN (headN t)).length) more (by omega) ((headsL_append _ _).2 ⟨hk, hr⟩) (by
        rw [← List.drop_drop, he, List.drop_left])
      rw [List.length_cons, rdH_more _ _ _ _ (by rw [g]) (by rw [g]; simp only; omega), g]
      simp only
      rw [hhd.2, show rs.length + t.ks.length = (t.ks ++ rs).length by simp; omega, this]
      simp only
      rw [hhd.1, hdsL_open, encL_open, List.length_append]
      congr 2
      omega
end Go.Proofs.Ytfleomamhkeiiaa
