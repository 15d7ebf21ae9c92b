/- What is swapped: a formula with one term in place of some parts that are another: plain mathematics. -/
import Derived.Test.YtmmdhlemkcddmaaT18
import Derived.Test.YtmmdhlemkcddmaaI2
namespace Go.Proofs.Ytmmdhlemkcddmaa
set_option linter.unusedVariables false
set_option linter.unusedSimpArgs false
/-- the same but for what lies below -/
def headB (a b : Tr) : Bool := decide (a.k = b.k ∧ a.i = b.i ∧ a.ks.length = b.ks.length)
/-- a is t, and b is u -/
def turnB (a b t u : Tr) : Bool := decide (cmpT a t = 0) && decide (cmpT b u = 0)
/-- a quantifier that names one of the variables -/
def namesB (own : Nat) (a : Tr) : Bool := decide (a.k = 7 ∨ a.k = 10) && hasN own a.i
mutual
def swpT (t u : Tr) (own : Nat) : Tr → Tr → Bool → Bool
  | .node k i ks, b, may => (may && turnB (.node k i ks) b t u) || (headB (.node k i ks) b && swpL t u own ks b.ks (may && !namesB own (.node k i ks)))
def swpL (t u : Tr) (own : Nat) : List Tr → List Tr → Bool → Bool
  | [], _, _ => true
  | _ :: _, [], _ => true
  | a :: r, b :: s, m => swpT t u own a b m && swpL t u own r s m
end
theorem swpT_eq (t u : Tr) (own : Nat) (a b : Tr) (may : Bool) : swpT t u own a b may = ((may && turnB a b t u) || (headB a b && swpL t u own a.ks b.ks (may && !namesB own a))) := by
  cases a; rw [swpT]; rfl
theorem swpL_cons (t u : Tr) (own : Nat) (a b : Tr) (r s : List Tr) (m : Bool) : swpL t u own (a :: r) (b :: s) m = (swpT t u own a b m && swpL t u own r s m) := by rw [swpL]
theorem swpL_nil (t u : Tr) (own : Nat) (s : List Tr) (m : Bool) : swpL t u own [] s m = true := by cases s <;> rw [swpL]
theorem swpL_take (t u : Tr) (own : Nat) (may : Bool) : ∀ (ks ls : List Tr) (m : Nat) (h : m < ks.length) (h' : m < ls.length), swpL t u own (ks.take (m + 1)) (ls.take (m + 1)) may = (swpL t u own (ks.take m) (ls.take m) may && swpT t u own ks[m] ls[m] may)
  | [], _, _, h, _ => by simp at h
  | _ :: _, [], _, _, h => by simp at h
  | a :: r, b :: s, 0, _, _ => by simp [swpL_cons, swpL_nil]
  | a :: r, b :: s, m + 1, h, h' => by
    simp only [List.take_succ_cons, swpL_cons, List.getElem_cons_succ]
    rw [swpL_take t u own may r s m (by simpa using h) (by simpa using h'), Bool.and_assoc]
theorem swpL_false (t u : Tr) (own : Nat) (may : Bool) : ∀ (ks ls : List Tr) (m : Nat) (h : m < ks.length) (h' : m < ls.length), swpT t u own ks[m] ls[m] may = false → swpL t u own ks ls may = false
  | [], _, _, h, _, _ => by simp at h
  | _ :: _, [], _, _, h, _ => by simp at h
  | a :: r, b :: s, 0, _, _, e => by simp only [List.getElem_cons_zero] at e; simp [swpL_cons, e]
  | a :: r, b :: s, m + 1, h, h', e => by
    rw [swpL_cons, swpL_false t u own may r s m (by simpa using h) (by simpa using h') (by simpa using e)]; simp
theorem headB_iff {a b : Tr} : headB a b = true ↔ a.k = b.k ∧ a.i = b.i ∧ a.ks.length = b.ks.length := by unfold headB; exact decide_eq_true_iff
theorem headB_comm (a b : Tr) : headB a b = headB b a := by
  rw [Bool.eq_iff_iff, headB_iff, headB_iff]
  exact ⟨fun ⟨h1, h2, h3⟩ => ⟨h1.symm, h2.symm, h3.symm⟩, fun ⟨h1, h2, h3⟩ => ⟨h1.symm, h2.symm, h3.symm⟩⟩
theorem turnB_comm (a b t u : Tr) : turnB a b t u = turnB b a u t := by unfold turnB; rw [Bool.and_comm]
theorem turnB_iff {a b t u : Tr} : turnB a b t u = true ↔ a = t ∧ b = u := by
  unfold turnB
  rw [Bool.and_eq_true, decide_eq_true_iff, decide_eq_true_iff, cmpT_zero, cmpT_zero]
theorem namesB_head {own : Nat} {a b : Tr} (h : headB a b = true) : namesB own a = namesB own b := by
  obtain ⟨h1, h2, _⟩ := headB_iff.1 h
  unfold namesB; rw [h1, h2]
/-- what is itself is itself, swapped -/
theorem swp_refl (t u : Tr) (own : Nat) (a : Tr) : ∀ may, swpT t u own a a may = true := by
  induction a using Tr.ind with
  | h a ih =>
    intro may
    rw [swpT_eq]
    have hh : headB a a = true := headB_iff.2 ⟨rfl, rfl, rfl⟩
    have hl : ∀ (l : List Tr), (∀ q ∈ l, ∀ m, swpT t u own q q m = true) → ∀ m, swpL t u own l l m = true := by
      intro l
      induction l with
      | nil => intro _ m; exact swpL_nil _ _ _ _ _
      | cons q r ihr => intro h m; rw [swpL_cons, h q (by simp) m, ihr (fun x hx => h x (by simp [hx])) m]; rfl
    rw [hh, hl a.ks ih]
    simp
/-- where nothing may be swapped only what is the same is so -/
theorem swp_no (t u : Tr) (own : Nat) (a : Tr) : ∀ b, swpT t u own a b false = decide (cmpT a b = 0) := by
  induction a using Tr.ind with
  | h a ih =>
    intro b
    have hl : ∀ (l r : List Tr), l.length = r.length → (∀ q ∈ l, ∀ b, swpT t u own q b false = decide (cmpT q b = 0)) → swpL t u own l r false = decide (l = r) := by
      intro l
      induction l with
      | nil =>
        intro r hr _
        have : r = [] := List.length_eq_zero_iff.1 hr.symm
        subst this
        rw [swpL_nil]; simp
      | cons q l' ihr =>
        intro r hr h
        cases r with
        | nil => simp at hr
        | cons p r' =>
          rw [swpL_cons, h q (by simp) p, ihr r' (by simpa using hr) (fun x hx => h x (by simp [hx]))]
          rw [Bool.eq_iff_iff]
          simp [cmpT_zero]
    rw [swpT_eq]
    simp only [Bool.false_and, Bool.false_or]
    rw [Bool.eq_iff_iff, Bool.and_eq_true, decide_eq_true_iff, cmpT_zero, headB_iff]
    constructor
    · rintro ⟨⟨h1, h2, h3⟩, h4⟩
      rw [hl a.ks b.ks h3 ih, decide_eq_true_iff] at h4
      rw [a.eta, b.eta, h1, h2, h4]
    · rintro rfl
      refine ⟨⟨rfl, rfl, rfl⟩, ?_⟩
      rw [hl a.ks a.ks rfl ih]; simp
/-- what is swapped is swapped back -/
theorem swp_back (t u : Tr) (own : Nat) (a : Tr) : ∀ b may, swpT t u own a b may = swpT u t own b a may := by
  induction a using Tr.ind with
  | h a ih =>
    intro b may
    have hl : ∀ (l r : List Tr), l.length = r.length → (∀ q ∈ l, ∀ b m, swpT t u own q b m = swpT u t own b q m) → ∀ m, swpL t u own l r m = swpL u t own r l m := by
      intro l
      induction l with
      | nil =>
        intro r hr _ m
        have : r = [] := List.length_eq_zero_iff.1 hr.symm
        subst this
        rw [swpL_nil, swpL_nil]
      | cons q l' ihr =>
        intro r hr h m
        cases r with
        | nil => simp at hr
        | cons p r' => rw [swpL_cons, swpL_cons, h q (by simp) p m, ihr r' (by simpa using hr) (fun x hx => h x (by simp [hx])) m]
    rw [swpT_eq, swpT_eq, turnB_comm a b t u, headB_comm a b]
    cases hh : headB b a with
    | false => simp
    | true =>
      rw [namesB_head hh, hl a.ks b.ks (headB_iff.1 hh).2.2.symm ih]
/-- what stands for a variable may be swapped for another -/
theorem swp_put {x : Int} (h0 : 0 ≤ x) (h1 : x ≤ 63) (t u : Tr) (a : Tr) : a.shp = true → catT (varsT t) x a = 0 → catT (varsT u) x a = 0 →
    swpT t u (varsT t ||| varsT u) (putX x t a) (putX x u a) true = true := by
  induction a using Tr.ind with
  | h a ih =>
    intro hs ct cu
    by_cases hv : a.k = 1 ∧ a.i = x
    · rw [putX_var hv.1 hv.2, putX_var hv.1 hv.2, swpT_eq, turnB_iff.2 ⟨rfl, rfl⟩]; rfl
    · by_cases hq : (a.k = 7 ∨ a.k = 10) ∧ a.i = x
      · rw [putX_quant h0 h1 hq.1 hq.2, putX_quant h0 h1 hq.1 hq.2]; exact swp_refl _ _ _ _ _
      · cases hf : hasN (freeT a) x with
        | false => rw [putX_unfree h0 h1 t a hs hf, putX_unfree h0 h1 u a hs hf]; exact swp_refl _ _ _ _ _
        | true =>
          have kt := cat_kid h0 h1 hs hq ct
          have ku := cat_kid h0 h1 hs hq cu
          have hn : namesB (varsT t ||| varsT u) (.node a.k a.i (a.ks.map (putX x t))) = false := by
            unfold namesB
            rw [node_k, node_i]
            by_cases hk : a.k = 7 ∨ a.k = 10
            · have ka := (kind_of_shp a hs)
              obtain ⟨_, _, hi⟩ := shp_quant hs hk
              have e1 := cat_quant hk hi.1 hi.2 hf ct
              have e2 := cat_quant hk hi.1 hi.2 hf cu
              rw [hasN_bit hi.1 hi.2, Nat.testBit_or, e1, e2]; simp
            · rw [decide_eq_false hk]; rfl
          have hl : ∀ (l : List Tr), (∀ q ∈ l, swpT t u (varsT t ||| varsT u) (putX x t q) (putX x u q) true = true) → swpL t u (varsT t ||| varsT u) (l.map (putX x t)) (l.map (putX x u)) true = true := by
            intro l
            induction l with
            | nil => intro _; exact swpL_nil _ _ _ _ _
            | cons q r ihr => intro h; rw [List.map_cons, List.map_cons, swpL_cons, h q (by simp), ihr (fun y hy => h y (by simp [hy]))]; rfl
          rw [putX_else hv hq, putX_else hv hq, swpT_eq, hn]
          have hh : headB (.node a.k a.i (a.ks.map (putX x t))) (.node a.k a.i (a.ks.map (putX x u))) = true := headB_iff.2 ⟨rfl, rfl, by simp [node_ks]⟩
          rw [hh, node_ks, node_ks]
          have := hl a.ks fun q hq' => ih q hq' (shp_kid hs hq') (kt q hq') (ku q hq')
          simp [this]
end Go.Proofs.Ytmmdhlemkcddmaa
