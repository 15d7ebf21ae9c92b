/- RA, RB, RC, RD, RE, RF, RNB, RO, one behind the other. -/
import Derived.Test.YtgnfbhemkombaaaGreatSZ
import Derived.Test.YtgnfbhemkombaaaGreatSX
import Derived.Test.YtgnfbhemkombaaaGreatLY
namespace Go.Proofs.YtgnfbhemkombaaaGreat
set_option linter.unusedVariables false
set_option linter.unusedSimpArgs false
/-- the parts at some paths; none: one of them leads nowhere -/
def partsAtT (e : Tr) : List (List Int) → Option (List Tr)
  | [] => some []
  | p :: r => match partAt e p, partsAtT e r with
    | some q, some l => some (q :: l)
    | _, _ => none
mutual
/-- what stands in b where x is free in a, as the code looks for it -/
def standT (x : Int) : Tr → Tr → Option Tr
  | .node k i ks, b => if k = 1 ∧ i = x then some b else if (k = 7 ∨ k = 10) ∧ i = x then none else standL x ks b.ks
def standL (x : Int) : List Tr → List Tr → Option Tr
  | [], _ => none
  | t :: r, bs => match bs with
    | [] => none
    | u :: s => match standT x t u with
      | some q => some q
      | none => standL x r s
end
theorem standT_eq (x : Int) (a b : Tr) : standT x a b = if a.k = 1 ∧ a.i = x then some b else if (a.k = 7 ∨ a.k = 10) ∧ a.i = x then none else standL x a.ks b.ks := by cases a; rw [standT]; rfl
theorem standL_nil (x : Int) (l : List Tr) : standL x [] l = none := by rw [standL]
theorem standL_none (x : Int) (t : Tr) (l : List Tr) : standL x (t :: l) [] = none := by rw [standL]
theorem standL_cons (x : Int) (t u : Tr) (r s : List Tr) : standL x (t :: r) (u :: s) = match standT x t u with | some q => some q | none => standL x r s := by rw [standL]
mutual
/-- the same, as the document looks for it -/
def standD (x : Int) : Tr → Tr → Option Tr
  | .node k i ks, b => if hasN (freeT (.node k i ks)) x = false ∨ (k ≠ 1 ∧ ks.length ≠ b.ks.length) then none else if k = 1 then some b else standDL x ks b.ks
def standDL (x : Int) : List Tr → List Tr → Option Tr
  | [], _ => none
  | t :: r, bs => match bs with
    | [] => none
    | u :: s => if hasN (freeT t) x = true then standD x t u else standDL x r s
end
theorem standD_eq (x : Int) (a b : Tr) : standD x a b = if hasN (freeT a) x = false ∨ (a.k ≠ 1 ∧ a.ks.length ≠ b.ks.length) then none else if a.k = 1 then some b else standDL x a.ks b.ks := by cases a; rw [standD]; rfl
theorem standDL_nil (x : Int) (l : List Tr) : standDL x [] l = none := by rw [standDL]
theorem standDL_cons (x : Int) (t u : Tr) (r s : List Tr) : standDL x (t :: r) (u :: s) = if hasN (freeT t) x = true then standD x t u else standDL x r s := by rw [standDL]
theorem free_var {a : Tr} {x : Int} (h0 : 0 ≤ x) (h1 : x ≤ 63) (hk : a.k = 1) (hi : a.i = x) : hasN (freeT a) x = true := by
  rw [freeT_eq, if_pos hk, hi, hasN_withN, decide_eq_true (show 0 ≤ x ∧ x ≤ 63 from ⟨h0, h1⟩)]
  simp
theorem free_quant {a : Tr} {x : Int} (h0 : 0 ≤ x) (h1 : x ≤ 63) (hk : a.k = 7 ∨ a.k = 10) (hi : a.i = x) : hasN (freeT a) x = false := by
  have : ¬ a.k = 1 := by omega
  rw [freeT_eq, if_neg this, if_pos hk, hasN_bit h0 h1, tb_without _ _ _ (freeL_U _), hi]
  have : inI x x.toNat = true := by unfold inI; simp; omega
  rw [this]; simp
/-- one that is free in the whole is free in a kid -/
theorem free_some {a : Tr} {x : Int} (h0 : 0 ≤ x) (h1 : x ≤ 63) (hs : a.shp = true) (hv : ¬ (a.k = 1 ∧ a.i = x)) (h : hasN (freeT a) x = true) : hasN (freeL a.ks) x = true := by
  rw [freeT_eq] at h
  by_cases hk1 : a.k = 1
  · rw [if_pos hk1, hasN_withN, hasN_zero] at h
    have : ¬ a.i = x := fun hh => hv ⟨hk1, hh⟩
    simp [this] at h
  · rw [if_neg hk1] at h
    by_cases hk : a.k = 7 ∨ a.k = 10
    · rw [if_pos hk, hasN_bit h0 h1, tb_without _ _ _ (freeL_U _)] at h
      rw [hasN_bit h0 h1]
      revert h
      cases (freeL a.ks).testBit x.toNat <;> simp
    · rwa [if_neg hk] at h
theorem freeL_split {x : Int} (h0 : 0 ≤ x) (h1 : x ≤ 63) (t : Tr) (r : List Tr) : hasN (freeL (t :: r)) x = (hasN (freeT t) x || hasN (freeL r) x) := by
  rw [freeL_cons, hasN_bit h0 h1, hasN_bit h0 h1, hasN_bit h0 h1, Nat.testBit_or]
theorem stand_put {x : Int} (h0 : 0 ≤ x) (h1 : x ≤ 63) (u a : Tr) : a.shp = true → standT x a (putX x u a) = if hasN (freeT a) x = true then some u else none := by
  induction a using Tr.ind with
  | h a ih =>
    intro hs
    rw [standT_eq]
    by_cases hv : a.k = 1 ∧ a.i = x
    · rw [if_pos hv, if_pos (free_var h0 h1 hv.1 hv.2), putX_var hv.1 hv.2]
    · rw [if_neg hv]
      by_cases hq : (a.k = 7 ∨ a.k = 10) ∧ a.i = x
      · rw [if_pos hq, if_neg (by rw [free_quant h0 h1 hq.1 hq.2]; simp)]
      · rw [if_neg hq, putX_else hv hq, node_ks]
        have hl : ∀ (l : List Tr), (∀ q ∈ l, standT x q (putX x u q) = if hasN (freeT q) x = true then some u else none) → standL x l (l.map (putX x u)) = if hasN (freeL l) x = true then some u else none := by
          intro l
          induction l with
          | nil => intro _; rw [standL_nil, if_neg (by rw [freeL_nil, hasN_zero]; simp)]
          | cons q r ihr =>
            intro h
            rw [List.map_cons, standL_cons, h q (by simp), freeL_split h0 h1]
            cases hf : hasN (freeT q) x with
            | true => simp
            | false => simp [ihr fun y hy => h y (by simp [hy])]
        rw [hl a.ks fun q hq' => ih q hq' (shp_kid hs hq')]
        cases hf : hasN (freeT a) x with
        | true => rw [if_pos (free_some h0 h1 hs hv hf), if_pos rfl]
        | false =>
          have hz : ¬ hasN (freeL a.ks) x = true := by
            intro hh
            have hk := free_kid h0 h1 hs hq hf
            have : ∀ l : List Tr, (∀ q ∈ l, hasN (freeT q) x = false) → hasN (freeL l) x = false := by
              intro l
              induction l with
              | nil => intro _; rw [freeL_nil, hasN_zero]
              | cons q r ihr => intro h; rw [freeL_split h0 h1, h q (by simp), ihr fun y hy => h y (by simp [hy])]; rfl
            rw [this _ hk] at hh
            cases hh
          rw [if_neg hz, if_neg (by simp)]
theorem standD_put {x : Int} (h0 : 0 ≤ x) (h1 : x ≤ 63) (u a : Tr) : a.shp = true → standD x a (putX x u a) = if hasN (freeT a) x = true then some u else none := by
  induction a using Tr.ind with
  | h a ih =>
    intro hs
    rw [standD_eq]
    cases hf : hasN (freeT a) x with
    | false => rw [if_pos (.inl rfl), if_neg (by simp)]
    | true =>
      rw [if_pos rfl]
      by_cases hv : a.k = 1 ∧ a.i = x
      · rw [if_neg (fun h => by rcases h with h | h; cases h; exact h.1 hv.1), if_pos hv.1, putX_var hv.1 hv.2]
      · have hq : ¬ ((a.k = 7 ∨ a.k = 10) ∧ a.i = x) := fun hq => by rw [free_quant h0 h1 hq.1 hq.2] at hf; cases hf
        have hk1 : ¬ a.k = 1 := fun hk1 => by
          have := free_some h0 h1 hs hv hf
          rw [(shp_varT hs hk1).1, freeL_nil, hasN_zero] at this
          cases this
        rw [putX_else hv hq, node_ks, if_neg (fun h => by rcases h with h | h; cases h; exact h.2 (by simp)), if_neg hk1]
        have hl : ∀ (l : List Tr), (∀ q ∈ l, standD x q (putX x u q) = if hasN (freeT q) x = true then some u else none) → hasN (freeL l) x = true → standDL x l (l.map (putX x u)) = some u := by
          intro l
          induction l with
          | nil => intro _ h; rw [freeL_nil, hasN_zero] at h; cases h
          | cons q r ihr =>
            intro h hf'
            rw [List.map_cons, standDL_cons]
            cases hfq : hasN (freeT q) x with
            | true => rw [if_pos rfl, h q (by simp), if_pos hfq]
            | false =>
              rw [freeL_split h0 h1, hfq] at hf'
              rw [if_neg (by simp)]
              exact ihr (fun y hy => h y (by simp [hy])) (by simpa using hf')
        exact hl a.ks (fun q hq' => ih q hq' (shp_kid hs hq')) (free_some h0 h1 hs hv hf)
/-- the parts that a formula may have, as the code finds them -/
def splitV (k : Nat) (e : Tr) : Option (List Tr × Int) :=
  match partsAtT e (pathsL k) with
  | none => none
  | some l => if k = 4 then (match l with
      | [a, b] => some ([a, (standT (e.ks.headD zeroT).i a b).getD (varT (e.ks.headD zeroT).i)], (e.ks.headD zeroT).i)
      | _ => none)
    else if k = 5 then some (l, (e.ks.headD zeroT).i) else some (l, 0)
/-- are these the parts of e by schema k, as the code tests it? -/
def fitsV (k : Nat) (e : Tr) (l : List Tr) (x : Int) : Bool := decide ((fillV k l x).2 = 0) && (sameB (fillV k l x).1 e && sideV k l x)
def partsV (k : Nat) (e : Tr) : Option (List Tr × Int) :=
  match splitV k e with
  | none => none
  | some p => if fitsV k e p.1 p.2 = true then some p else none
def kidT (e : Tr) (zs : List Int) : Tr := (partAt e zs).getD zeroT
/-- the parts that a formula would have, as the document guesses them -/
def guessV (k : Nat) (e : Tr) : List Tr × Int :=
  if k = 4 then ([kidT e [0, 0], (standD (kidT e [0]).i (kidT e [0, 0]) (kidT e [1])).getD (varT (kidT e [0]).i)], (kidT e [0]).i) else
  ((pathsL k).map (kidT e), if k = 5 then (kidT e [0]).i else 0)
def partsD (k : Nat) (e : Tr) : Option (List Tr × Int) :=
  if (makeD (k : Int) (guessV k e).1 (guessV k e).2).2 = 0 ∧ likeB (makeD (k : Int) (guessV k e).1 (guessV k e).2).1 e = true then some (guessV k e) else none
theorem likeB_iff9 (a b : Tr) : likeB a b = true ↔ a = b := by unfold likeB; rw [decide_eq_true_iff]; exact cmpT_zero a b
/-- e is what schema k makes of l and x, and the side condition holds -/
def Made (k : Nat) (e : Tr) (l : List Tr) (x : Int) : Prop := fillV k l x = (e, 0) ∧ sideV k l x = true
theorem fits_iff {k : Nat} {e : Tr} {l : List Tr} {x : Int} (hr : rightN e = 0) : fitsV k e l x = true ↔ Made k e l x := by
  unfold fitsV Made
  rw [sameB_eq]
  constructor
  · intro h
    simp only [Bool.and_eq_true, decide_eq_true_eq, likeB_iff9] at h
    obtain ⟨h1, ⟨⟨_, _⟩, h2⟩, h3⟩ := h
    exact ⟨Prod.ext h2 h1, h3⟩
  · rintro ⟨h1, h2⟩
    rw [h1]
    simp [hr, h2, likeB_iff9]
theorem limR_right {t e : Tr} (h : limR t = (e, 0)) : t = e ∧ rightN t = 0 := by
  unfold limR at h
  by_cases hr : rightN t = 0
  · rw [if_pos hr] at h
    cases h
    exact ⟨rfl, hr⟩
  · rw [if_neg hr] at h
    exact absurd (congrArg Prod.snd h) hr
theorem made_of_make {k : Nat} (h1 : 1 ≤ k) (h7 : k ≤ 7) {e : Tr} {l : List Tr} {x : Int} (h : makeD (k : Int) l x = (e, 0)) : Made k e l x ∧ l.length = (sortsL k).length ∧ 0 ≤ x ∧ x ≤ 63 ∧ sortedN l (sortsL k) = 0 := by
  rw [← make_eq] at h
  unfold makeV at h
  rw [if_neg (fun hh => hh ⟨by omega, by omega⟩), show (k : Int).toNat = k by omega] at h
  by_cases hf : faultN l.length (sortsL k).length (decide (k = 4 ∨ k = 5)) x (sortedN l (sortsL k)) = 0
  · rw [if_neg (fun hh => hh hf)] at h
    obtain ⟨g1, g2, g3, g4⟩ := faultN_zero hf
    cases hs : sideV k l x with
    | false =>
      rw [hs, if_pos rfl] at h
      have := congrArg Prod.snd h
      simp at this
    | true =>
      rw [hs, if_neg (by simp)] at h
      by_cases hg : (fillV k l x).2 = 0
      · rw [if_neg (fun hh => hh hg), atN_nil] at h
        exact ⟨⟨Prod.ext (limR_right h).1 hg, hs⟩, g1, g2, g3, g4⟩
      · rw [if_pos hg] at h
        exact absurd (congrArg Prod.snd h) hg
  · rw [if_pos hf] at h
    exact absurd (congrArg Prod.snd h) hf
end Go.Proofs.YtgnfbhemkombaaaGreat
namespace Go.Proofs.YtgnfbhemkombaaaGreat
set_option linter.unusedVariables false
set_option linter.unusedSimpArgs false
theorem right_two {k i : Int} {a b : Tr} {s : Bool} (hk : kidsTerm k = s) (h : rightN (.node k i [a, b]) = 0) : rightN a = 0 ∧ rightN b = 0 ∧ termB a.k = s ∧ termB b.k = s := by
  have hs := (right_shp' h).1
  rw [shp_eq] at hs
  have h2 : shpL s [a, b] = true := by
    have : (kindOk k i 2 && shpL (kidsTerm k) [a, b]) = true := hs
    rw [hk] at this
    simp only [Bool.and_eq_true] at this
    exact this.2
  rw [shpL_cons, shpL_cons] at h2
  simp only [Bool.and_eq_true, beq_iff_eq] at h2
  exact ⟨right_kid h (q := a) (by simp [Tr.ks]), right_kid h (q := b) (by simp [Tr.ks]), h2.1.1, h2.2.1.1⟩
theorem right_one {k i : Int} {a : Tr} {s : Bool} (hk : kidsTerm k = s) (h : rightN (.node k i [a]) = 0) : rightN a = 0 ∧ termB a.k = s := by
  have hs := (right_shp' h).1
  rw [shp_eq] at hs
  have h2 : shpL s [a] = true := by
    have : (kindOk k i 1 && shpL (kidsTerm k) [a]) = true := hs
    rw [hk] at this
    simp only [Bool.and_eq_true] at this
    exact this.2
  rw [shpL_cons] at h2
  simp only [Bool.and_eq_true, beq_iff_eq] at h2
  exact ⟨right_kid h (q := a) (by simp [Tr.ks]), h2.1.1⟩
theorem right_imp {a b : Tr} (h : rightN (impT a b) = 0) : rightN a = 0 ∧ rightN b = 0 ∧ termB a.k = false ∧ termB b.k = false := right_two (s := false) (by decide) h
theorem right_eq {a b : Tr} (h : rightN (eqT a b) = 0) : rightN a = 0 ∧ rightN b = 0 ∧ termB a.k = true ∧ termB b.k = true := right_two (s := true) (by decide) h
theorem right_not {a : Tr} (h : rightN (notT a) = 0) : rightN a = 0 ∧ termB a.k = false := right_one (s := false) (by decide) h
theorem right_all {x : Int} {a : Tr} (h : rightN (allT x a) = 0) : rightN a = 0 ∧ termB a.k = false ∧ 0 ≤ x ∧ x ≤ 63 := by
  have h1 := right_one (s := false) (by decide) h
  have hs := (right_shp' h).1
  rw [shp_eq] at hs
  have : (kindOk 7 x 1 && shpL (kidsTerm 7) [a]) = true := hs
  simp only [Bool.and_eq_true] at this
  have h2 := this.1
  simp [kindOk] at h2
  exact ⟨h1.1, h1.2, h2.1, h2.2⟩
theorem firstL_all {l : List Tr} (h : ∀ q ∈ l, rightN q = 0) : firstL l = 0 := by
  induction l with
  | nil => rfl
  | cons t r ih =>
    unfold firstL
    rw [if_neg (by rw [h t (by simp)]; simp)]
    exact ih fun q hq => h q (by simp [hq])
theorem sorted_ok {l : List Tr} {cs : List Bool} (h : ∀ q ∈ l, rightN q = 0) (hb : sortsB l cs = true) : sortedN l cs = 0 := by
  unfold sortedN
  rw [if_neg (by rw [firstL_all h]; simp), if_pos hb]
theorem make_of {k : Nat} (h1 : 1 ≤ k) (h7 : k ≤ 7) {e : Tr} {l : List Tr} {x : Int} (hm : Made k e l x) (hr : rightN e = 0) (hl : l.length = (sortsL k).length) (x0 : 0 ≤ x) (x1 : x ≤ 63) (hx : x = 0 ∨ k = 4 ∨ k = 5)
    (hq : ∀ q ∈ l, rightN q = 0) (hb : sortsB l (sortsL k) = true) : makeD (k : Int) l x = (e, 0) := by
  have hf : faultN l.length (sortsL k).length (decide (k = 4 ∨ k = 5)) x (sortedN l (sortsL k)) = 0 := by
    unfold faultN
    rw [if_neg, sorted_ok hq hb]
    rintro (h | h | h | ⟨h, h'⟩)
    · exact h hl
    · omega
    · omega
    · rcases hx with hx | hx
      · exact h hx
      · rw [decide_eq_true hx] at h'; cases h'
  rw [← make_eq]
  unfold makeV
  rw [if_neg (fun hh => hh ⟨by omega, by omega⟩), show (k : Int).toNat = k by omega, if_neg (fun hh => hh hf), if_neg (by rw [hm.2]; simp), hm.1, if_neg (fun hh => hh rfl), atN_nil]
  unfold limR
  rw [if_pos hr]
theorem made4 {e a t : Tr} {x : Int} (h : Made 4 e [a, t] x) : e = impT (allT x a) (putX x t a) ∧ rightN t = 0 ∧ termB t.k = true ∧ 0 ≤ x ∧ x ≤ 63 ∧ rightN a = 0 := by
  have h1 : fill4R a t x = (e, 0) := h.1
  unfold fill4R at h1
  by_cases hb : 1000 < 2 + a.sz + (a.sz + occN x a * (t.sz - 1))
  · rw [if_pos hb] at h1; exact absurd (congrArg Prod.snd h1) (by simp)
  · rw [if_neg hb] at h1
    by_cases hz : (eachR a [(x, t)]).2 = 0
    · rw [if_neg (fun hh => hh hz)] at h1
      have he : eachN a [(x, t)] = 0 := by
        unfold eachR at hz
        by_cases hn : eachN a [(x, t)] = 0
        · exact hn
        · rw [if_neg hn] at hz; exact hz
      have hE : eachR a [(x, t)] = (putX x t a, 0) := by unfold eachR; rw [if_pos he]
      have hf : faultE a [(x, t)] = 0 := by
        unfold eachN at he
        by_cases hn : faultE a [(x, t)] = 0
        · exact hn
        · rw [if_pos hn] at he; exact he
      unfold faultE at hf
      by_cases hA : argE [(x, t)] 0 = false
      · rw [if_pos hA] at hf; cases hf
      · rw [if_neg hA] at hf
        by_cases hra : rightN a = 0
        · rw [if_neg (fun hh => hh hra)] at hf
          by_cases hrt : rightL [(x, t)] = 0
          · rw [if_neg (fun hh => hh hrt)] at hf
            by_cases ht : termL [(x, t)] = false
            · rw [if_pos ht] at hf; cases hf
            · have hx : argE [(x, t)] 0 = true := by simpa using hA
              simp [argE] at hx
              have hk : termB t.k = true := by simpa [termL] using ht
              have hr : rightN t = 0 := rightL_all hrt (x, t) (by simp)
              rw [hE] at h1
              exact ⟨(congrArg Prod.fst h1).symm, hr, hk, hx.1, hx.2.1, hra⟩
          · rw [if_pos hrt] at hf; exact absurd hf hrt
        · rw [if_pos hra] at hf; exact absurd hf hra
    · rw [if_pos hz] at h1; exact absurd (congrArg Prod.snd h1) hz
/-- what can be said of e as soon as it is made of some parts -/
theorem made_all {k : Nat} (h1 : 1 ≤ k) (h7 : k ≤ 7) {e : Tr} {l : List Tr} {x : Int} (hr : rightN e = 0) (hm : Made k e l x) (hl : l.length = (sortsL k).length) :
    splitV k e = some (guessV k e) ∧ (k = 4 ∨ k = 5 ∨ (guessV k e).2 = 0) ∧ (∀ q ∈ l, rightN q = 0) ∧ sortsB l (sortsL k) = true ∧ (k = 4 ∨ k = 5 → 0 ≤ x ∧ x ≤ 63) := by
  have hk : k = 1 ∨ k = 2 ∨ k = 3 ∨ k = 4 ∨ k = 5 ∨ k = 6 ∨ k = 7 := by omega
  rcases hk with rfl | rfl | rfl | rfl | rfl | rfl | rfl
  · obtain ⟨a, b, rfl⟩ := list_two (l := l) (by simpa [sortsL] using hl)
    obtain rfl : impT a (impT b a) = e := congrArg Prod.fst hm.1
    have r1 := right_imp hr
    have r2 := right_imp r1.2.1
    refine ⟨rfl, .inr (.inr rfl), ?_, ?_, fun h => by omega⟩
    · simp [r1.1, r2.1]
    · show ((termB a.k == false) && ((termB b.k == false) && true)) = true
      simp [r1.2.2.1, r2.2.2.1]
  · obtain ⟨a, b, d, rfl⟩ := list_three (l := l) (by simpa [sortsL] using hl)
    obtain rfl : impT (impT a (impT b d)) (impT (impT a b) (impT a d)) = e := congrArg Prod.fst hm.1
    have r1 := right_imp (right_imp hr).1
    have r2 := right_imp r1.2.1
    refine ⟨rfl, .inr (.inr rfl), ?_, ?_, fun h => by omega⟩
    · simp [r1.1, r2.1, r2.2.1]
    · show ((termB a.k == false) && ((termB b.k == false) && ((termB d.k == false) && true))) = true
      simp [r1.2.2.1, r2.2.2.1, r2.2.2.2]
  · obtain ⟨a, b, rfl⟩ := list_two (l := l) (by simpa [sortsL] using hl)
    obtain rfl : impT (impT (notT a) (notT b)) (impT b a) = e := congrArg Prod.fst hm.1
    have r1 := right_imp (right_imp hr).2.1
    refine ⟨rfl, .inr (.inr rfl), ?_, ?_, fun h => by omega⟩
    · simp [r1.1, r1.2.1]
    · show ((termB a.k == false) && ((termB b.k == false) && true)) = true
      simp [r1.2.2.1, r1.2.2.2]
  · obtain ⟨a, t, rfl⟩ := list_two (l := l) (by simpa [sortsL] using hl)
    obtain ⟨rfl, hrt, hkt, hx0, hx1, hra⟩ := made4 hm
    have r1 := right_imp hr
    have r2 := right_all r1.1
    have hs := (right_shp' hra).1
    refine ⟨?_, .inl rfl, ?_, ?_, fun _ => ⟨hx0, hx1⟩⟩
    · have e1 : splitV 4 (impT (allT x a) (putX x t a)) = some ([a, (standT x a (putX x t a)).getD (varT x)], x) := rfl
      have e2 : guessV 4 (impT (allT x a) (putX x t a)) = ([a, (standD x a (putX x t a)).getD (varT x)], x) := rfl
      rw [e1, e2, stand_put hx0 hx1 t a hs, standD_put hx0 hx1 t a hs]
    · simp [hra, hrt]
    · show ((termB a.k == false) && ((termB t.k == true) && true)) = true
      simp [r2.2.1, hkt]
  · obtain ⟨a, b, rfl⟩ := list_two (l := l) (by simpa [sortsL] using hl)
    obtain rfl : impT (allT x (impT a b)) (impT a (allT x b)) = e := congrArg Prod.fst hm.1
    have r0 := right_imp hr
    have ra := right_all r0.1
    have r1 := right_imp ra.1
    refine ⟨rfl, .inr (.inl rfl), ?_, ?_, fun _ => ⟨ra.2.2.1, ra.2.2.2⟩⟩
    · simp [r1.1, r1.2.1]
    · show ((termB a.k == false) && ((termB b.k == false) && true)) = true
      simp [r1.2.2.1, r1.2.2.2]
  · obtain ⟨a, rfl⟩ := list_one (l := l) (by simpa [sortsL] using hl)
    obtain rfl : eqT a a = e := congrArg Prod.fst hm.1
    have r1 := right_eq hr
    refine ⟨rfl, .inr (.inr rfl), ?_, ?_, fun h => by omega⟩
    · simp [r1.1]
    · show ((termB a.k == true) && true) = true
      simp [r1.2.2.1]
  · obtain ⟨t, u, a, b, rfl⟩ := list_four (l := l) (by simpa [sortsL] using hl)
    obtain rfl : impT (eqT t u) (impT a b) = e := congrArg Prod.fst hm.1
    have r0 := right_imp hr
    have r1 := right_eq r0.1
    have r2 := right_imp r0.2.1
    refine ⟨rfl, .inr (.inr rfl), ?_, ?_, fun h => by omega⟩
    · simp [r1.1, r1.2.1, r2.1, r2.2.1]
    · show ((termB t.k == true) && ((termB u.k == true) && ((termB a.k == false) && ((termB b.k == false) && true)))) = true
      simp [r1.2.2.1, r1.2.2.2, r2.2.2.1, r2.2.2.2]
theorem partsAtT_len {e : Tr} : ∀ {ps : List (List Int)} {l : List Tr}, partsAtT e ps = some l → l.length = ps.length
  | [], l, h => by simp [partsAtT] at h; subst h; rfl
  | p :: r, l, h => by
    unfold partsAtT at h
    cases h1 : partAt e p with
    | none => rw [h1] at h; cases h
    | some q =>
      cases h2 : partsAtT e r with
      | none => rw [h1, h2] at h; cases h
      | some m =>
        rw [h1, h2] at h
        cases h
        simp [partsAtT_len h2]
theorem split_len {k : Nat} (h1 : 1 ≤ k) (h7 : k ≤ 7) {e : Tr} {p : List Tr × Int} (h : splitV k e = some p) : p.1.length = (sortsL k).length ∧ (k = 4 ∨ k = 5 ∨ p.2 = 0) := by
  unfold splitV at h
  cases hp : partsAtT e (pathsL k) with
  | none => rw [hp] at h; cases h
  | some l =>
    have hl := partsAtT_len hp
    have hpl : (pathsL k).length = (sortsL k).length := by
      have hk : k = 1 ∨ k = 2 ∨ k = 3 ∨ k = 4 ∨ k = 5 ∨ k = 6 ∨ k = 7 := by omega
      rcases hk with rfl | rfl | rfl | rfl | rfl | rfl | rfl <;> rfl
    rw [hp] at h
    simp only at h
    by_cases h4 : k = 4
    · subst h4
      rw [if_pos rfl] at h
      obtain ⟨a, b, rfl⟩ := list_two (l := l) (by simpa [pathsL] using hl)
      simp only [Option.some.injEq] at h
      subst h
      exact ⟨rfl, .inl rfl⟩
    · rw [if_neg h4] at h
      by_cases h5 : k = 5
      · rw [if_pos h5] at h
        cases h
        exact ⟨hl.trans hpl, .inr (.inl h5)⟩
      · rw [if_neg h5] at h
        cases h
        exact ⟨hl.trans hpl, .inr (.inr rfl)⟩
theorem parts_eq {k : Nat} (h1 : 1 ≤ k) (h7 : k ≤ 7) {e : Tr} (hr : rightN e = 0) : partsV k e = partsD k e := by
  apply Option.ext
  intro p
  constructor
  · intro h
    unfold partsV at h
    cases hs : splitV k e with
    | none => rw [hs] at h; cases h
    | some q =>
      rw [hs] at h
      simp only at h
      by_cases hf : fitsV k e q.1 q.2 = true
      · rw [if_pos hf] at h
        cases h
        have hm := (fits_iff hr).1 hf
        obtain ⟨hl, hx⟩ := split_len h1 h7 hs
        obtain ⟨g1, g2, g3, g4, g5⟩ := made_all h1 h7 hr hm hl
        rw [hs] at g1
        obtain rfl : p = guessV k e := Option.some.inj g1
        have hM : makeD (k : Int) (guessV k e).1 (guessV k e).2 = (e, 0) := by
          refine make_of h1 h7 hm hr hl ?_ ?_ ?_ g3 g4
          · rcases hx with hx | hx | hx
            · exact (g5 (.inl hx)).1
            · exact (g5 (.inr hx)).1
            · omega
          · rcases hx with hx | hx | hx
            · exact (g5 (.inl hx)).2
            · exact (g5 (.inr hx)).2
            · omega
          · rcases hx with hx | hx | hx
            · exact .inr (.inl hx)
            · exact .inr (.inr hx)
            · exact .inl hx
        unfold partsD
        rw [hM, if_pos ⟨rfl, (likeB_iff9 _ _).2 rfl⟩]
      · rw [if_neg hf] at h; cases h
  · intro h
    unfold partsD at h
    by_cases hc : (makeD (k : Int) (guessV k e).1 (guessV k e).2).2 = 0 ∧ likeB (makeD (k : Int) (guessV k e).1 (guessV k e).2).1 e = true
    · rw [if_pos hc] at h
      cases h
      have hM : makeD (k : Int) (guessV k e).1 (guessV k e).2 = (e, 0) := Prod.ext ((likeB_iff9 _ _).1 hc.2) hc.1
      obtain ⟨hm, hl, _, _, _⟩ := made_of_make h1 h7 hM
      obtain ⟨g1, _⟩ := made_all h1 h7 hr hm hl
      unfold partsV
      rw [g1]
      simp only
      rw [if_pos ((fits_iff hr).2 hm)]
    · rw [if_neg hc] at h; cases h
end Go.Proofs.YtgnfbhemkombaaaGreat
namespace Go.Proofs.YtgnfbhemkombaaaGreat
open Go.RowKit
set_option linter.unusedVariables false
set_option linter.unusedSimpArgs false
theorem BoxP.set0 {w : World} {b n c : Nat} {A : Option Addr} {x : Int} (h : BoxP w b A n c x) (A' : Option Addr) (n' c' : Nat) : BoxP (w.setCell ⟨b, 0, none⟩ (.slice A' n' c')) b A' n' c' x := by
  unfold BoxP at *
  unfold World.setCell
  simp [Array.getElem?_modify, h]
theorem BoxP.set1 {w : World} {b n c : Nat} {A : Option Addr} {x : Int} (h : BoxP w b A n c x) (x' : Int) : BoxP (w.setCell ⟨b, 1, none⟩ (.int .i64 x')) b A n c x' := by
  unfold BoxP at *
  unfold World.setCell
  simp [Array.getElem?_modify, h]
theorem BoxP.frozen {w : World} {b n c : Nat} {A : Option Addr} {x : Int} (h : BoxP w b A n c x) (o : Nat) : w.frozen? ⟨b, o, none⟩ = false := by
  unfold BoxP at h
  simp [World.frozen?, h]
theorem BoxP.other {w : World} {b n c : Nat} {A : Option Addr} {x : Int} (h : BoxP w b A n c x) (p : Addr) (q : Value) (hne : b ≠ p.block) : BoxP (w.setCell p q) b A n c x := (heap_setCell_other w p q b hne).trans h
theorem BoxP.grown {w w' : World} {b n c : Nat} {A : Option Addr} {x : Int} {row : Option Nat} (h : BoxP w b A n c x) (hg : w.grownBy w' row) (hne : some b ≠ row) : BoxP w' b A n c x := (hg.block b h.lt hne).trans h
/-- a list of parts laid by appending, box b holding it; its rows lie from block base on -/
structure LayP (w wr : World) (S base b : Nat) (x : Int) (ts : List Tr) (A1 : Option Addr) (c1 : Nat) (cs : List (Option Addr × Nat)) : Prop where
  below : Below S w wr
  len : cs.length = ts.length
  box : BoxP wr b A1 ts.length c1 x
  lo : S ≤ b
  lb : b < base
  own : wr.ownsRow base 24 3 (.slice A1 ts.length c1) ts.length (rowC ts cs)
  kids : OwnL wr (Value.slice A1 ts.length c1).ownBlock base wr.heap.size ts cs
theorem LayP.done {w wr : World} {S base b : Nat} {x : Int} {ts : List Tr} {A1 : Option Addr} {c1 : Nat} {cs : List (Option Addr × Nat)} (h : LayP w wr S base b x ts A1 c1 cs) : OwnT wr base wr.heap.size (.node 0 0 ts) A1 c1 :=
  ownT_eq.2 ⟨cs, h.len, h.own, fun g e => (h.own.lt g e).2, h.kids⟩
/-- one more kid is laid, whatever was made between -/
theorem LayP.step {w wr w1 wx w4 : World} {S base b : Nat} {x : Int} {ts : List Tr} {q : Tr} {A1 : Option Addr} {c1 : Nat} {cs : List (Option Addr × Nat)} (h : LayP w wr S base b x ts A1 c1 cs)
    (hw1 : Below wr.heap.size wr w1) {A2 : Option Addr} {c2 : Nat} (hq : OwnT w1 wr.heap.size w1.heap.size q A2 c2) (hwx : Below w1.heap.size w1 wx) {g cap : Nat}
    (hown : w4.ownsRow base 24 3 (.slice (some ⟨g, 0, none⟩) (ts.length + 1) cap) (ts.length + 1) (rowC ts cs ++ [.int .i64 q.k, .int .i64 q.i, .slice A2 q.ks.length c2])) (hg : wx.grownBy w4 (Value.slice A1 ts.length c1).ownBlock)
    (hat : (Value.slice A1 ts.length c1).ownBlock = some g ∨ g = wx.heap.size) :
    LayP w (w4.setCell ⟨b, 0, none⟩ (.slice (some ⟨g, 0, none⟩) (ts.length + 1) cap)) S base b x (ts ++ [q]) (some ⟨g, 0, none⟩) cap (cs ++ [(A2, c2)]) := by
  have hlt := h.own.lt
  have hsz1 := hw1.size
  have hszx := hwx.size
  have hsz4 := hg.size
  have hbl := h.box.lt
  have hlo := h.lo
  have hne : ∀ k, (Value.slice A1 ts.length c1).ownBlock = some k → base ≤ k ∧ k < wr.heap.size := hlt
  have lb := h.lb
  have hgb := (hown.lt g rfl).1
  have old : ∀ k, k < w1.heap.size → (Value.slice A1 ts.length c1).ownBlock ≠ some k → k ≠ b → (w4.setCell ⟨b, 0, none⟩ (.slice (some ⟨g, 0, none⟩) (ts.length + 1) cap)).heap[k]? = w1.heap[k]? := by
    intro k hk h1 h2
    rw [heap_setCell_other _ _ _ _ h2, hg.block k (by omega) (fun e => h1 e.symm), hwx.block k hk]
  have old0 : ∀ k, k < wr.heap.size → w1.heap[k]? = wr.heap[k]? := fun k hk => hw1.block k hk
  have el : (ts ++ [q]).length = ts.length + 1 := by simp
  refine ⟨?_, by simp [h.len], ?_, h.lo, h.lb, ?_, ?_⟩
  · refine ⟨?_, ?_, ?_, ?_, ?_⟩
    · exact (show w4.os = _ from hg.os).trans (hwx.os.trans (hw1.os.trans h.below.os))
    · exact (show w4.tape = _ from hg.tape).trans (hwx.tape.trans (hw1.tape.trans h.below.tape))
    · exact (show w4.output = _ from hg.output).trans (hwx.output.trans (hw1.output.trans h.below.output))
    · have := h.below.size; simp; omega
    · intro k hk
      rw [old k (by omega) (fun e => by have := hne k e; omega) (by omega), old0 k (by omega), h.below.block k hk]
  · have b1 : BoxP w1 b A1 ts.length c1 x := (old0 b hbl).trans h.box
    have b2 : BoxP w4 b A1 ts.length c1 x := by
      refine (hg.block b (by omega) (fun e => ?_)).trans ?_
      · have := hne b e.symm; omega
      · rw [hwx.block b (by omega)]; exact b1
    rw [el]
    exact b2.set0 _ _ _
  · rw [el, rowC_snoc _ _ _ _ _ h.len]
    exact ownsRow_same (hi := w4.heap.size) hown (fun k k1 k2 => heap_setCell_other _ _ _ _ (by show k ≠ b; omega)) (fun k e => (hown.lt k e).2)
  · rw [el]
    have k1 : OwnL (w4.setCell ⟨b, 0, none⟩ (.slice (some ⟨g, 0, none⟩) (ts.length + 1) cap)) (Value.slice (some ⟨g, 0, none⟩) (ts.length + 1) cap).ownBlock base wr.heap.size ts cs := by
      refine OwnL.same _ _ (fun k k1 k2 k3 => ?_) (fun l1 h1 hl hh ha => ?_) h.kids
      · rw [old k (by omega) k3 (by omega), old0 k k2]
      · intro g' e
        obtain rfl : g = g' := by simpa [Value.ownBlock] using e
        rcases hat with e | e
        · exact ha g e
        · omega
    have k2 : OwnT (w4.setCell ⟨b, 0, none⟩ (.slice (some ⟨g, 0, none⟩) (ts.length + 1) cap)) wr.heap.size w1.heap.size q A2 c2 :=
      OwnT.same _ (fun k k1 k2 => old k k2 (fun e => by have := hne k e; omega) (by omega)) hq
    refine (OwnL.snoc h.len k1 hsz1 ?_ k2).widen (by simp; omega)
    intro g' e
    obtain rfl : g = g' := by simpa [Value.ownBlock] using e
    rcases hat with e | e
    · have := hne g e; omega
    · omega
/-- an answer: parts, if there are any, in new memory -/
def PartsP (w : World) (o : Option (List Tr × Int)) (e : Ending) (w' : World) : Prop :=
  Below w.heap.size w w' ∧ match o with
    | none => e = .returned (.tuple #[.agg #[.slice none 0 0, .int .i64 0], .bool false])
    | some p => ∃ A c, e = .returned (.tuple #[.agg #[.slice A p.1.length c, .int .i64 p.2], .bool true]) ∧ OwnT w' w.heap.size w'.heap.size (.node 0 0 p.1) A c
theorem partsAtT_step {e : Tr} {ps : List (List Int)} {k : Nat} (hk : k < ps.length) {l : List Tr} (h : partsAtT e (ps.take k) = some l) :
    partsAtT e (ps.take (k + 1)) = match partAt e ps[k] with | some q => some (l ++ [q]) | none => none := by
  have gen : ∀ (a : List (List Int)) (p : List Int) (l : List Tr), partsAtT e a = some l → partsAtT e (a ++ [p]) = match partAt e p with | some q => some (l ++ [q]) | none => none := by
    intro a
    induction a with
    | nil => intro p l h; simp [partsAtT] at h; subst h; rw [List.nil_append, partsAtT, partsAtT]; cases partAt e p <;> rfl
    | cons b r ih =>
      intro p l h
      rw [partsAtT] at h
      rw [List.cons_append, partsAtT]
      cases h1 : partAt e b with
      | none => rw [h1] at h; cases h
      | some q =>
        cases h2 : partsAtT e r with
        | none => rw [h1, h2] at h; cases h
        | some m =>
          rw [h1, h2] at h
          cases h
          rw [ih p m h2]
          cases partAt e p <;> rfl
  rw [List.take_succ_eq_append_getElem hk, gen _ _ _ h]
theorem partsAtT_none {e : Tr} {ps : List (List Int)} {k : Nat} (hk : k < ps.length) (h : partAt e ps[k] = none) : partsAtT e ps = none := by
  have gen : ∀ (a : List (List Int)), (∃ p ∈ a, partAt e p = none) → partsAtT e a = none := by
    intro a
    induction a with
    | nil => rintro ⟨p, hp, _⟩; simp at hp
    | cons b r ih =>
      rintro ⟨p, hp, hn⟩
      rw [partsAtT]
      rcases List.mem_cons.1 hp with rfl | hp
      · rw [hn]
      · rw [ih ⟨p, hp, hn⟩]; cases partAt e b <;> rfl
  exact gen ps ⟨ps[k], List.getElem_mem hk, h⟩
theorem rd_path {w : World} {B r : Nat} {p : List Int} (h : PathAt w r p) (hr : r < B) : Rd .i64 w B (some ⟨r, 0, none⟩) p := fun j hj => by
  refine ⟨⟨r, 0, none⟩, rfl, hr, ?_⟩
  have e : (⟨r, 0, none⟩ : Addr).add j = ⟨r, j, none⟩ := by unfold Addr.add; split <;> simp_all
  rw [e, h j hj, List.getD_eq_getElem?_getD, List.getElem?_eq_getElem hj]
  rfl
set_option maxHeartbeats 8000000 in
set_option maxRecDepth 100000 in
theorem partsAt1_any (t : Tr) (A : Option Addr) (c p lo : Nat) (ps : List (List Int)) (w : World) (ht : IsT w w.heap.size t A c) (hr : rightN t = 0) (hp : PathsBox w lo w.heap.size p ps) (hl4 : ps.length ≤ 4) (hl3 : ∀ j (h : j < ps.length), ps[j].length ≤ 3) :
    Calls Tryz.prog 77 #[.agg #[.int .i64 t.k, .int .i64 t.i, .slice A t.ks.length c], .pointer (some ⟨p, 0, none⟩)] w (PartsP w ((partsAtT t ps).map fun l => (l, 0))) := by
  obtain ⟨i0, hi, hz0, hz1, hzb⟩ := info_parts infoE
  have HI := Lib.hid (And.intro hi (And.intro hz0 (And.intro hz1 hzb)))
  clear hi hz0 hz1 hzb
  obtain ⟨W0, hW0⟩ : ∃ W0, W0 = ((w.alloc (.cells #[.int .i64 t.k, .int .i64 t.i, .slice A t.ks.length c] 24)).alloc (.cells #[.slice none 0 0, .int .i64 0] 32)).alloc (.cells #[.slice none 0 0, .int .i64 0] 32) := ⟨_, rfl⟩
  have hz : W0.heap.size = w.heap.size + 3 := by rw [hW0]; simp
  have B0 : Below w.heap.size w W0 := by rw [hW0]; exact bl_trans (bl_trans (alB _ _) (alB _ _)) (alB _ _)
  have X0 : Box3 W0 w.heap.size (.int .i64 t.k) (.int .i64 t.i) (.slice A t.ks.length c) := by
    rw [hW0]
    exact ((Box3.new w _ _ _).keep (alB _ _) (by simp)).keep (alB _ _) (by simp; omega)
  have R0 : BoxP W0 (w.heap.size + 1) none 0 0 0 := by
    have h := BoxP.new (w.alloc (.cells #[.int .i64 t.k, .int .i64 t.i, .slice A t.ks.length c] 24)) none 0 0 0
    rw [hW0]
    exact (by simpa using h : BoxP _ (w.heap.size + 1) none 0 0 0).keep (alB _ _) (by simp)
  have L0 : LayP w W0 w.heap.size (w.heap.size + 3) (w.heap.size + 2) 0 [] none 0 [] := by
    refine ⟨B0, rfl, ?_, by omega, by omega, ?_, ?_⟩
    · have h := BoxP.new ((w.alloc (.cells #[.int .i64 t.k, .int .i64 t.i, .slice A t.ks.length c] 24)).alloc (.cells #[.slice none 0 0, .int .i64 0] 32)) none 0 0 0
      rw [hW0]
      simpa using h
    · simpa [rowC] using World.ownsRow_nil _ _ _ _
    · simp [OwnL]; omega
  have HP0 := Lib.hid hp
  have HT := Lib.hid ht
  have HB0 := Lib.hid B0
  have HZ := Lib.hid hz
  have HX := Lib.hid X0
  have HR := Lib.hid R0
  have HL0 := Lib.hid L0
  have HRt := Lib.hid hr
  have H3 := Lib.hid hl3
  have HPL := Lib.hid (fun (k : Nat) (l : List Tr) (h : partsAtT t (ps.take k) = some l) => partsAtT_len h)
  obtain ⟨_, hpl, q, _, hql, hpc, hpp⟩ := hp
  have HPP := Lib.hid hpp
  have hpc0 := (B0.cell (p := ⟨p, 0, none⟩) hpl).trans hpc
  rw [hW0] at hpc0
  have HW := Lib.hid hW0
  clear hz B0 X0 R0 L0 hW0 ht hr hl3 hpp hpc
  go_enter Tryz.func77, Tryz.ntmps77
  go_wp2_with fail
  rw [← HW.out]
  clear hpc0
  go_loopw [7, 9, 12] (fun _ _ i wr => ∃ (k : Nat) (l : List Tr) (A1 : Option Addr) (c1 : Nat) (cs : List (Option Addr × Nat)), k ≤ ps.length ∧ i = .int .i64 (k : Int) ∧ partsAtT t (ps.take k) = some l ∧ LayP w wr w.heap.size (w.heap.size + 3) (w.heap.size + 2) 0 l A1 c1 cs ∧
    Box3 wr w.heap.size (.int .i64 t.k) (.int .i64 t.i) (.slice A t.ks.length c) ∧ BoxP wr (w.heap.size + 1) none 0 0 0) (fun _ _ i _ => ps.length - (intOf i).toNat)
  case atStart => exact ⟨0, [], none, 0, [], Nat.zero_le _, rfl, rfl, HL0.out, HX.out, HR.out⟩
  case round =>
    obtain ⟨k, l, A1, c1, cs, hk, rfl, hpt, hL, hX, hR⟩ := hrel
    have hll : l.length = k := by have := HPL.out k l hpt; rw [List.length_take] at this; omega
    have hl5 : l.length ≤ 4 := by omega
    clear hll
    have PT := Lib.hid hpt
    have HL := Lib.hid hL
    have HXr := Lib.hid hX
    have HRr := Lib.hid hR
    have hwr : w.heap.size + 3 ≤ wr.heap.size := by have := hL.box.lt; omega
    obtain ⟨x0, x1, x2⟩ := hX.cells
    clear hpt hL hX hR
    by_cases hlt : k < ps.length
    · obtain ⟨r, _, hrl, hrc, hra⟩ := HPP.out k hlt
      have hrc' := (HL.out.below.cell (p := ⟨q, k, none⟩) hql).trans hrc
      have ha : ∀ i (h : i < ps[k].length), wr.cell? ⟨r, i, none⟩ = some (.int .i64 ps[k][i]) := fun i h => (HL.out.below.cell (p := ⟨r, i, none⟩) hrl).trans (hra i h)
      have RD := Lib.hid (rd_path (B := wr.heap.size) (show PathAt wr r ps[k] from ha) (by omega))
      have hp3 := H3.out k hlt
      have ST := Lib.hid (partsAtT_step hlt PT.out)
      have SN := Lib.hid (partsAtT_none (e := t) hlt)
      have AT := Lib.hid (show atN t ps[k] = (match partAt t ps[k] with | none => (zeroT, 24) | some q => (q, 0)) from if_pos HRt.out)
      obtain ⟨zs, hzs⟩ : ∃ zs, zs = ps[k] := ⟨_, rfl⟩
      rw [← hzs] at hrc' RD hp3 ST SN AT
      clear hzs hrc hra ha
      go_wp2_with fail
      refine (at_any t A c (some ⟨r, 0, none⟩) zs.length zs.length zs _ (by exact HT.out.keep HL.out.below HL.out.below.size) rfl (by unfold maxLen; omega) (by exact RD.out)).mono ?_
      rintro e w1 ⟨hb1, A2, c2, ho, rfl⟩
      have HB1 := Lib.hid hb1
      have HO := Lib.hid ho
      obtain ⟨x, hx⟩ : ∃ x, x = atN t zs := ⟨_, rfl⟩
      rw [← hx] at AT HO ⊢
      clear hx ho hb1 x0 x1 x2
      have hs1 := HB1.out.size
      have pb := Lib.hid ((HL.out.box.keep HB1.out HL.out.box.lt).keep (alB w1 (.cells #[.int .i64 x.1.k, .int .i64 x.1.i, .slice A2 x.1.ks.length c2] 24)) (by have := (HL.out.box.keep HB1.out HL.out.box.lt).lt; omega))
      have rb := Lib.hid ((HRr.out.keep HB1.out HRr.out.lt).keep (alB w1 (.cells #[.int .i64 x.1.k, .int .i64 x.1.i, .slice A2 x.1.ks.length c2] 24)) (by have := (HRr.out.keep HB1.out HRr.out.lt).lt; omega))
      have nb := Lib.hid (Box3.new w1 (.int .i64 x.1.k) (.int .i64 x.1.i) (.slice A2 x.1.ks.length c2))
      obtain ⟨y0, y1, y2⟩ := nb.out.cells
      obtain ⟨p0, p1⟩ := pb.out.cells
      obtain ⟨r0, r1⟩ := rb.out.cells
      have f0 := rb.out.frozen 0
      have f1 := rb.out.frozen 1
      cases hpa : partAt t zs with
      | none =>
        rw [hpa] at AT
        have NO := Lib.hid (SN.out hpa)
        have e1 : x.2 = 24 := by rw [AT.out]
        rw [e1]
        have BB := Lib.hid (bl_trans (bl_trans HL.out.below HB1.out) (alB w1 (.cells #[.int .i64 x.1.k, .int .i64 x.1.i, .slice A2 x.1.ks.length c2] 24)))
        clear AT e1 hpa ST SN
        go_wp2_with fail
        obtain ⟨z0, z1⟩ := ((rb.out.set0 none 0 0).set1 0).cells
        refine bodyPost_ret (v := .tuple #[.agg #[.slice none 0 0, .int .i64 0], .bool false]) (by simp [results, Tryz.results77, go_sem, z0, z1]) rfl ?_
        rw [NO.out]
        exact ⟨(BB.out.setCell (p := ⟨w.heap.size + 1, 0, none⟩) (Nat.le_succ _) _).setCell (p := ⟨w.heap.size + 1, 1, none⟩) (Nat.le_succ _) _, rfl⟩
      | some u =>
        rw [hpa] at AT ST
        have e1 : x.2 = 0 := by rw [AT.out]
        have e2 : x.1 = u := by rw [AT.out]
        rw [e1]
        rw [e2] at HO nb pb rb y0 y1 y2 p0 p1 r0 r1 f0 f1 ⊢
        clear AT e1 e2 hpa SN
        have OWN := Lib.hid (fun o o' => ((ownsRow_same (hi := wr.heap.size) HL.out.own (fun k k1 k2 => HB1.out.block k k2) (fun g e => (HL.out.own.lt g e).2)).alloc o).alloc o')
        have OB := Lib.hid (fun g e => (HL.out.own.lt g e))
        have STEP := Lib.hid (fun (wx w4 : World) => @LayP.step w wr w1 wx w4 _ _ _ _ l u A1 c1 cs HL.out HB1.out A2 c2 HO.out)
        have hbl : w.heap.size + 3 ≤ w1.heap.size := by omega
        have PB2 := Lib.hid (fun o => pb.out.keep (alB _ o) pb.out.lt)
        have XB2 := Lib.hid (fun o => ((HXr.out.keep HB1.out HXr.out.lt).keep (alB w1 (.cells #[.int .i64 u.k, .int .i64 u.i, .slice A2 u.ks.length c2] 24)) (by have := (HXr.out.keep HB1.out HXr.out.lt).lt; omega)).keep (alB _ o) (by simp; omega))
        have RB2 := Lib.hid (fun o => rb.out.keep (alB _ o) rb.out.lt)
        go_wp2_with (at_builtin; refine wpList_append_lies _ (by rfl) _ _ _ (by rfl) (w.heap.size + 3) 24 i0 _ 3 40 Tryz.underlying22 HI.out.1 HI.out.2.1 HI.out.2.2.1 HI.out.2.2.2 (by rfl) (by omega) (.slice A1 l.length c1) l.length (rowC l cs) (by rfl) (by exact OWN.out _ _) ⟨w1.heap.size + 1, 0, none⟩ 1 1 [.int .i64 u.k, .int .i64 u.i, .slice A2 u.ks.length c2] (by rfl) (by rfl) (by exact news3 _ _ _ _ _ _) (by simp [Value.oneCell']) (by omega) (by unfold maxLen; omega) (by omega) (by simp; omega) (w1.heap.size + 2) (by simp) ?_; intro g cap4 w4 hown4 hgrow hat hlt4; have P4 := Lib.hid ((PB2.out _).grown hgrow (fun e => by have := OB.out _ e.symm; omega)); have c4 := P4.out.cells.1; have f4 := P4.out.frozen 0; have HO4 := Lib.hid hown4; have HG4 := Lib.hid hgrow; have HAT := Lib.hid hat; clear hown4 hgrow hat)
        have hwx : Below w1.heap.size w1 ((w1.alloc (.cells #[.int .i64 u.k, .int .i64 u.i, .slice A2 u.ks.length c2] 24)).alloc (.cells #[.int .i64 u.k, .int .i64 u.i, .slice A2 u.ks.length c2] 24)) := bl_trans (alB _ _) (alB _ _)
        have NL := Lib.hid (STEP.out _ w4 hwx HO4.out HG4.out (by have := HAT.out; simpa using this))
        have X4 := Lib.hid (Box3.set_other (Box3.grown (XB2.out _) HG4.out (fun e => by have := OB.out _ e.symm; omega)) ⟨w.heap.size + 2, 0, none⟩ (.slice (some ⟨g, 0, none⟩) (l.length + 1) cap4) (by show w.heap.size ≠ w.heap.size + 2; omega))
        have R4 := Lib.hid (BoxP.other (BoxP.grown (RB2.out _) HG4.out (fun e => by have := OB.out _ e.symm; omega)) ⟨w.heap.size + 2, 0, none⟩ (.slice (some ⟨g, 0, none⟩) (l.length + 1) cap4) (by show w.heap.size + 1 ≠ w.heap.size + 2; omega))
        go_roundw
        case rel => exact ⟨k + 1, l ++ [u], _, _, _, by omega, by go_num, ST.out, NL.out, X4.out, R4.out⟩
        case measure => simp [intOf]; omega
    · have hke : k = ps.length := by omega
      have hk0 : ¬ (k : Int) < (ps.length : Int) := by omega
      have e1 : partsAtT t ps = some l := by have := PT.out; rwa [hke, List.take_length] at this
      have R := Lib.hid e1
      clear hke
      obtain ⟨p0, p1⟩ := HL.out.box.cells
      obtain ⟨r0, r1⟩ := HRr.out.cells
      have f0 := HRr.out.frozen 0
      have f1 := HRr.out.frozen 1
      clear e1
      go_wp2_with fail
      obtain ⟨z0, z1⟩ := ((HRr.out.set0 A1 l.length c1).set1 0).cells
      refine bodyPost_ret (v := .tuple #[.agg #[.slice A1 l.length c1, .int .i64 0], .bool true]) (by simp [results, Tryz.results77, go_sem, z0, z1]) rfl ?_
      rw [R.out]
      refine ⟨(HL.out.below.setCell (p := ⟨w.heap.size + 1, 0, none⟩) (Nat.le_succ _) _).setCell (p := ⟨w.heap.size + 1, 1, none⟩) (Nat.le_succ _) _, A1, c1, rfl, ?_⟩
      have hs : SameIn (w.heap.size + 3) wr.heap.size wr ((wr.setCell ⟨w.heap.size + 1, 0, none⟩ (.slice A1 l.length c1)).setCell ⟨w.heap.size + 1, 1, none⟩ (.int .i64 0)) := fun b b1 _ => by
        rw [heap_setCell_other _ _ _ _ (by show b ≠ w.heap.size + 1; omega), heap_setCell_other _ _ _ _ (by show b ≠ w.heap.size + 1; omega)]
      have := (OwnT.same _ hs HL.out.done).lower (lo' := w.heap.size) (by omega)
      simpa using this
end Go.Proofs.YtgnfbhemkombaaaGreat
namespace Go.Proofs.YtgnfbhemkombaaaGreat
open Go.RowKit
set_option linter.unusedVariables false
set_option linter.unusedSimpArgs false
theorem OwnT.kidAt {w : World} {lo hi : Nat} {t : Tr} {A : Option Addr} {c : Nat} (h : OwnT w lo hi t A c) (m : Nat) (hm : m < t.ks.length) :
    ∃ g Aq cq lo' hi', A = some ⟨g, 0, none⟩ ∧ lo ≤ g ∧ g < hi ∧ g < w.heap.size ∧ w.cell? ⟨g, m * 3, none⟩ = some (.int .i64 t.ks[m].k) ∧ w.cell? ⟨g, m * 3 + 1, none⟩ = some (.int .i64 t.ks[m].i) ∧ w.cell? ⟨g, m * 3 + 2, none⟩ = some (.slice Aq t.ks[m].ks.length cq) ∧
      lo ≤ lo' ∧ hi' ≤ hi ∧ OwnT w lo' hi' t.ks[m] Aq cq := by
  obtain ⟨cs, h1, h2, h3, h4⟩ := ownT_eq.1 h
  obtain ⟨l1, h1', a, b, c', e, f⟩ := h4.get h1 m hm
  obtain ⟨r0, r1, r2⟩ := rowC_get t.ks cs m hm h1
  rcases h2.2 with ⟨e, hn⟩ | ⟨g, cap, cur, e', hb, _, hc, _⟩
  · omega
  · cases e'
    have q0 := h2.cellAt (m * 3) (by omega)
    have q1 := h2.cellAt (m * 3 + 1) (by omega)
    have q2 := h2.cellAt (m * 3 + 2) (by omega)
    have hg := h2.lt g rfl
    exact ⟨g, (cs[m]'(by omega)).1, (cs[m]'(by omega)).2, l1, h1', rfl, hb, h3 g rfl, hg.2, by rw [q0, r0], by rw [q1, r1], by rw [q2, r2], a, c', f⟩
/-- what standing answers: a part of b, where it lies in w0 -/
def StandP (w0 : World) (lo hi : Nat) (w : World) (o : Option Tr) (e : Ending) (w' : World) : Prop :=
  Below w.heap.size w w' ∧ match o with
    | none => e = .returned (.tuple #[.agg #[.int .i64 0, .int .i64 0, .slice none 0 0], .bool false])
    | some u => ∃ A c l1 h1, e = .returned (.tuple #[.agg #[.int .i64 u.k, .int .i64 u.i, .slice A u.ks.length c], .bool true]) ∧ lo ≤ l1 ∧ h1 ≤ hi ∧ OwnT w0 l1 h1 u A c
/-- the boxes of standing -/
structure S3 (w wr : World) (a b : Tr) (A B : Option Addr) (ca cb : Nat) : Prop where
  xa : Box3 wr w.heap.size (.int .i64 a.k) (.int .i64 a.i) (.slice A a.ks.length ca)
  xb : Box3 wr (w.heap.size + 1) (.int .i64 b.k) (.int .i64 b.i) (.slice B b.ks.length cb)
  r : Box3 wr (w.heap.size + 2) (.int .i64 0) (.int .i64 0) (.slice none 0 0)
  bel : Below w.heap.size w wr
theorem S3.keep {w wr w' : World} {a b : Tr} {A B : Option Addr} {ca cb : Nat} (h : S3 w wr a b A B ca cb) (hb : Below wr.heap.size wr w') : S3 w w' a b A B ca cb :=
  ⟨h.xa.keep hb h.xa.lt, h.xb.keep hb h.xb.lt, h.r.keep hb h.r.lt, bl_trans h.bel hb⟩
theorem S3.start (w : World) (a b : Tr) (A B : Option Addr) (ca cb : Nat) :
    S3 w (((w.alloc (.cells #[.int .i64 a.k, .int .i64 a.i, .slice A a.ks.length ca] 24)).alloc (.cells #[.int .i64 b.k, .int .i64 b.i, .slice B b.ks.length cb] 24)).alloc (.cells #[.int .i64 0, .int .i64 0, .slice none 0 0] 24)) a b A B ca cb := by
  refine ⟨?_, ?_, ?_, bl_trans (bl_trans (alB _ _) (alB _ _)) (alB _ _)⟩
  · exact ((Box3.new w _ _ _).keep (alB _ _) (by simp)).keep (alB _ _) (by simp; omega)
  · have h := Box3.new (w.alloc (.cells #[.int .i64 a.k, .int .i64 a.i, .slice A a.ks.length ca] 24)) (.int .i64 b.k) (.int .i64 b.i) (.slice B b.ks.length cb)
    exact (by simpa using h : Box3 _ (w.heap.size + 1) _ _ _).keep (alB _ _) (by simp)
  · have h := Box3.new ((w.alloc (.cells #[.int .i64 a.k, .int .i64 a.i, .slice A a.ks.length ca] 24)).alloc (.cells #[.int .i64 b.k, .int .i64 b.i, .slice B b.ks.length cb] 24)) (.int .i64 0) (.int .i64 0) (.slice none 0 0)
    simpa using h
theorem standL_at {x : Int} {l r : List Tr} {m : Nat} (h1 : m < l.length) (h2 : m < r.length) : standL x (l.drop m) (r.drop m) = match standT x l[m] r[m] with | some q => some q | none => standL x (l.drop (m + 1)) (r.drop (m + 1)) := by
  rw [List.drop_eq_getElem_cons h1, List.drop_eq_getElem_cons h2]
  exact (standL_cons x _ _ _ _).trans (by cases standT x l[m] r[m] <;> rfl)
theorem standL_end {x : Int} {l r : List Tr} {m : Nat} (h : l.length ≤ m ∨ r.length ≤ m) : standL x (l.drop m) (r.drop m) = none := by
  rcases h with h | h
  · rw [List.drop_eq_nil_of_le h, standL_nil]
  · rw [List.drop_eq_nil_of_le h]
    cases l.drop m with
    | nil => rw [standL_nil]
    | cons t q => rw [standL_none]
set_option maxHeartbeats 8000000 in
set_option maxRecDepth 100000 in
theorem stand_any (x : Int) (w0 : World) (B0 : Nat) : ∀ (N : Nat) (a b : Tr) (A B : Option Addr) (ca cb lo hi : Nat) (w : World), a.sz ≤ N → Below B0 w0 w → B0 ≤ w.heap.size → IsT w0 B0 a A ca → OwnT w0 lo hi b B cb → hi ≤ B0 → b.fit →
    Calls Tryz.prog 84 #[.int .i64 x, .agg #[.int .i64 a.k, .int .i64 a.i, .slice A a.ks.length ca], .agg #[.int .i64 b.k, .int .i64 b.i, .slice B b.ks.length cb]] w (StandP w0 lo hi w (standT x a b)) := by
  intro N
  induction N with
  | zero => intro a b A B ca cb lo hi w h; have := sz_pos a; omega
  | succ N ih =>
    intro a b A B ca cb lo hi w hN hbw hB0 ha hb hhi hf
    have IH := Lib.hid ih
    have S0 := Lib.hid (S3.start w a b A B ca cb)
    have E := Lib.hid (standT_eq x a b)
    have HA := Lib.hid ha
    have HB := Lib.hid hb
    have HW := Lib.hid hbw
    have HF := Lib.hid hf
    have hl := ha.len
    have hlb := (hb.isT b hhi hf).len
    have tz := sz_eq a
    clear ih ha hb hbw hf
    go_enter Tryz.func84, Tryz.ntmps84
    go_upto_region 1 with fail
    go_cut [11] (fun v wc => v = .bool (decide (a.k = 1 ∧ a.i = x)) ∧ S3 w wc a b A B ca cb)
    case first =>
      obtain ⟨a0, a1, a2⟩ := S0.out.xa.cells
      go_wp2_with fail
      refine (hIsVar_any a.k a.i A a.ks.length ca _).mono ?_
      rintro e w1 ⟨rfl, hb1⟩
      have S1 := Lib.hid (S0.out.keep hb1)
      clear hb1 a0 a1 a2 S0
      obtain ⟨a0, a1, a2⟩ := S1.out.xa.cells
      by_cases hk : a.k = 1
      · rw [decide_eq_true hk]
        by_cases hi' : a.i = x
        · have hi2 : (a.i == x) = true := by simp [hi']
          have D := Lib.hid (decide_eq_true (show a.k = 1 ∧ a.i = x from ⟨hk, hi'⟩))
          clear hk hi'
          go_wp2_with fail
          go_meet
          exact ⟨by rw [D.out], S1.out⟩
        · have hi2 : (a.i == x) = false := by simpa using hi'
          have D := Lib.hid (decide_eq_false (show ¬ (a.k = 1 ∧ a.i = x) from fun h => hi' h.2))
          clear hk hi'
          go_wp2_with fail
          go_meet
          exact ⟨by rw [D.out], S1.out⟩
      · rw [decide_eq_false hk]
        have D := Lib.hid (decide_eq_false (show ¬ (a.k = 1 ∧ a.i = x) from fun h => hk h.1))
        clear hk
        go_wp2_with fail
        go_meet
        exact ⟨by rw [D.out], S1.out⟩
    case rest =>
      obtain ⟨rfl, hE⟩ := hcut
      have S1 := Lib.hid hE
      clear hE S0
      by_cases h1 : a.k = 1 ∧ a.i = x
      · rw [if_pos h1] at E
        rw [decide_eq_true h1]
        clear h1
        obtain ⟨b0, b1, b2⟩ := S1.out.xb.cells
        obtain ⟨r0, r1, r2⟩ := S1.out.r.cells
        have f0 := S1.out.r.frozen 0
        have f1 := S1.out.r.frozen 1
        have f2 := S1.out.r.frozen 2
        go_wp2_with fail
        obtain ⟨z0, z1, z2⟩ := (S1.out.r.setall (.int .i64 b.k) (.int .i64 b.i) (.slice B b.ks.length cb)).cells
        refine bodyPost_ret (v := .tuple #[.agg #[.int .i64 b.k, .int .i64 b.i, .slice B b.ks.length cb], .bool true]) (by simp [results, Tryz.results84, go_sem, z0, z1, z2]) rfl ?_
        rw [E.out]
        exact ⟨below_set3 S1.out.bel _ _ _ (by omega), B, cb, lo, hi, rfl, Nat.le_refl _, Nat.le_refl _, HB.out⟩
      · rw [if_neg h1] at E
        rw [decide_eq_false h1]
        clear h1
        go_upto_region 3 with fail
        go_cut [21] (fun v wc => v = .bool (decide ((a.k = 7 ∨ a.k = 10) ∧ a.i = x)) ∧ S3 w wc a b A B ca cb)
        case first =>
          obtain ⟨a0, a1, a2⟩ := S1.out.xa.cells
          go_wp2_with fail
          refine (hIsQuant_any a.k a.i A a.ks.length ca _).mono ?_
          rintro e w1 ⟨rfl, hb1⟩
          have S2 := Lib.hid (S1.out.keep hb1)
          clear hb1 a0 a1 a2 S1
          obtain ⟨a0, a1, a2⟩ := S2.out.xa.cells
          by_cases hk : a.k = 7 ∨ a.k = 10
          · rw [decide_eq_true hk]
            by_cases hi' : a.i = x
            · have hi2 : (a.i == x) = true := by simp [hi']
              have D := Lib.hid (decide_eq_true (show (a.k = 7 ∨ a.k = 10) ∧ a.i = x from ⟨hk, hi'⟩))
              clear hk hi'
              go_wp2_with fail
              go_meet
              exact ⟨by rw [D.out], S2.out⟩
            · have hi2 : (a.i == x) = false := by simpa using hi'
              have D := Lib.hid (decide_eq_false (show ¬ ((a.k = 7 ∨ a.k = 10) ∧ a.i = x) from fun h => hi' h.2))
              clear hk hi'
              go_wp2_with fail
              go_meet
              exact ⟨by rw [D.out], S2.out⟩
          · rw [decide_eq_false hk]
            have D := Lib.hid (decide_eq_false (show ¬ ((a.k = 7 ∨ a.k = 10) ∧ a.i = x) from fun h => hk h.1))
            clear hk
            go_wp2_with fail
            go_meet
            exact ⟨by rw [D.out], S2.out⟩
        case rest =>
          obtain ⟨rfl, hE⟩ := hcut
          have S2 := Lib.hid hE
          clear hE S1
          by_cases h1 : (a.k = 7 ∨ a.k = 10) ∧ a.i = x
          · rw [if_pos h1] at E
            rw [decide_eq_true h1]
            clear h1
            obtain ⟨r0, r1, r2⟩ := S2.out.r.cells
            have f0 := S2.out.r.frozen 0
            have f1 := S2.out.r.frozen 1
            have f2 := S2.out.r.frozen 2
            go_wp2_with fail
            obtain ⟨z0, z1, z2⟩ := (S2.out.r.setall (.int .i64 0) (.int .i64 0) (.slice none 0 0)).cells
            refine bodyPost_ret (v := .tuple #[.agg #[.int .i64 0, .int .i64 0, .slice none 0 0], .bool false]) (by simp [results, Tryz.results84, go_sem, z0, z1, z2]) rfl ?_
            rw [E.out]
            exact ⟨below_set3 S2.out.bel _ _ _ (by omega), rfl⟩
          · rw [if_neg h1] at E
            rw [decide_eq_false h1]
            clear h1
            obtain ⟨a0, a1, a2⟩ := S2.out.xa.cells
            obtain ⟨b0, b1, b2⟩ := S2.out.xb.cells
            by_cases hab : b.ks.length < a.ks.length
            · have hab' : (b.ks.length : Int) < (a.ks.length : Int) := by omega
              go_wp2_with fail
              go_loopw [8, 10, 38] (fun _ _ i wr => ∃ m : Nat, m ≤ a.ks.length ∧ m ≤ b.ks.length ∧ i = .int .i64 (m : Int) ∧ standT x a b = standL x (a.ks.drop m) (b.ks.drop m) ∧ S3 w wr a b A B ca cb) (fun _ _ i _ => a.ks.length - (intOf i).toNat)
              case atStart => exact ⟨0, Nat.zero_le _, Nat.zero_le _, rfl, E.out, S2.out⟩
              case round =>
                obtain ⟨m, hma, hmb, rfl, hst, hS⟩ := hrel
                have HST := Lib.hid hst
                have S4' := Lib.hid hS
                clear hst hS a0 a1 a2 b0 b1 b2
                by_cases hlt : m < b.ks.length
                · have hla : m < a.ks.length := by omega
                  have hlb' : m < b.ks.length := by omega
                  have ST0 := Lib.hid (HST.out.trans (standL_at hla hlb'))
                  have kz := kid_sz a m hla
                  obtain ⟨ga, oa, Aa, ka, rfl, hga, p0, p1, p2, hka⟩ := HA.out.kid m hla
                  obtain ⟨gb, Ab, kb, lo', hi', rfl, hg1, hg2, hg3, q0, q1, q2, hlo', hhi', hkb⟩ := HB.out.kidAt m hlb'
                  have HFq := Lib.hid (((fit_eq b).1 HF.out).2 b.ks[m] (List.getElem_mem hlb'))
                  obtain ⟨qa, hqa⟩ : ∃ qa, qa = a.ks[m] := ⟨_, rfl⟩
                  obtain ⟨qb, hqb⟩ : ∃ qb, qb = b.ks[m] := ⟨_, rfl⟩
                  rw [← hqa] at p0 p1 p2 hka ST0 kz
                  rw [← hqb] at q0 q1 q2 hkb ST0 HFq
                  have CA := Lib.hid (fun (W : World) (h : Below wr.drew.heap.size wr.drew W) => (IH.out qa qb Aa Ab ka kb lo' hi' W (by omega) (HW.out.trans ((stepB (stepB S4'.out.bel (Below.refl _ wr).drew) h).mono hB0)) (Nat.le_trans hB0 (stepB (stepB S4'.out.bel (Below.refl _ wr).drew) h).size) hka hkb (by omega) HFq.out))
                  have x2 := S4'.out.xa.cells.2.2
                  have y2 := S4'.out.xb.cells.2.2
                  have hBr : Below B0 w0 wr := HW.out.trans (S4'.out.bel.mono hB0)
                  have SS := Lib.hid (fun (W : World) (h : Below wr.drew.heap.size wr.drew W) => (by
                    have hb : Below B0 w0 W := HW.out.trans ((stepB (stepB S4'.out.bel (Below.refl _ wr).drew) h).mono hB0)
                    have hw : Below wr.heap.size wr W := stepB (Below.refl _ wr).drew h
                    exact ⟨⟨(hw.cell (block_lt_of_cell x2)).trans x2, (hw.cell (block_lt_of_cell y2)).trans y2⟩, ⟨(hb.cell hga).trans p0, (hb.cell hga).trans p1, (hb.cell hga).trans p2⟩, (hb.cell (p := ⟨gb, m * 3, none⟩) (by show gb < B0; omega)).trans q0, (hb.cell (p := ⟨gb, m * 3 + 1, none⟩) (by show gb < B0; omega)).trans q1, (hb.cell (p := ⟨gb, m * 3 + 2, none⟩) (by show gb < B0; omega)).trans q2⟩ : (W.cell? ⟨w.heap.size, 2, none⟩ = some (.slice (some ⟨ga, oa, none⟩) a.ks.length ca) ∧ W.cell? ⟨w.heap.size + 1, 2, none⟩ = some (.slice (some ⟨gb, 0, none⟩) b.ks.length cb)) ∧ ((W.cell? ⟨ga, oa + m * 3, none⟩ = some (.int .i64 qa.k) ∧ W.cell? ⟨ga, oa + m * 3 + 1, none⟩ = some (.int .i64 qa.i) ∧ W.cell? ⟨ga, oa + m * 3 + 2, none⟩ = some (.slice Aa qa.ks.length ka)) ∧ (W.cell? ⟨gb, m * 3, none⟩ = some (.int .i64 qb.k) ∧ W.cell? ⟨gb, m * 3 + 1, none⟩ = some (.int .i64 qb.i) ∧ W.cell? ⟨gb, m * 3 + 2, none⟩ = some (.slice Ab qb.ks.length kb)))))
                  have CB := Lib.hid (fun (W : World) (h : Below wr.drew.heap.size wr.drew W) {e : Ending} {w6 : World} (o : Option Tr) (ho : standT x qa qb = o) => True.intro)
                  have S4 := Lib.hid (S4'.out.keep (Below.refl _ _).drew)
                  have hm0 : (0 : Int) ≤ (m : Int) := by omega
                  have hm1 : (m : Int) < (a.ks.length : Int) := by omega
                  have hm2 : (m : Int) < (b.ks.length : Int) := by omega
                  clear hqa hqb p0 p1 p2 hka q0 q1 q2 hkb x2 y2 hBr CB
                  cases hs : standT x qa qb with
                  | none =>
                    rw [hs] at ST0
                    rw [hs] at CA
                    have ST := Lib.hid (show standT x a b = standL x (a.ks.drop (m + 1)) (b.ks.drop (m + 1)) from ST0.out)
                    clear ST0
                    go_upto_region 8 with fail
                    go_cut [9, 10] (fun v f wc => ∃ nt, v = .pointer (some ⟨nt, 0, none⟩) ∧ f = .bool false ∧ S3 w wc a b (some ⟨ga, oa, none⟩) (some ⟨gb, 0, none⟩) ca cb)
                    case first =>
                      have BB : Below wr.drew.heap.size wr.drew wr.drew := Below.refl _ _
                      go_region_held3 (fun w' => (w'.cell? ⟨w.heap.size, 2, none⟩ = some (.slice (some ⟨ga, oa, none⟩) a.ks.length ca) ∧ w'.cell? ⟨w.heap.size + 1, 2, none⟩ = some (.slice (some ⟨gb, 0, none⟩) b.ks.length cb)) ∧ ((w'.cell? ⟨ga, oa + m * 3, none⟩ = some (.int .i64 qa.k) ∧ w'.cell? ⟨ga, oa + m * 3 + 1, none⟩ = some (.int .i64 qa.i) ∧ w'.cell? ⟨ga, oa + m * 3 + 2, none⟩ = some (.slice Aa qa.ks.length ka)) ∧ (w'.cell? ⟨gb, m * 3, none⟩ = some (.int .i64 qb.k) ∧ w'.cell? ⟨gb, m * 3 + 1, none⟩ = some (.int .i64 qb.i) ∧ w'.cell? ⟨gb, m * 3 + 2, none⟩ = some (.slice Ab qb.ks.length kb))))
                        (first | exact SS.out _ BB | exact SS.out _ (stepB BB (below_alloc _ _)) | exact SS.out _ (below_set3 BB _ _ _ (by first | omega | (simp only [World.size_alloc, drew_sz] at *; omega))))
                        (first
                          | (go_at_call 84; refine (CA.out _ (by first | (with_reducible exact BB) | (with_reducible exact stepB BB (below_alloc _ _)) | exact BB | exact stepB BB (below_alloc _ _))).mono ?_; rintro e w6 ⟨hb6, rfl⟩; (first | replace BB := stepB BB hb6 | (have NB := boxA hb6; replace BB := stepA BB hb6) | (have NB := boxD hb6; replace BB := stepD hb6)); have hsz6 := BB.size; (try (obtain ⟨z0, z1, z2⟩ := NB.cells; have f0 := NB.frozen 0; have f1 := NB.frozen 1; have f2 := NB.frozen 2)); clear hb6))
                      all_goals go_wp2_with fail
                      all_goals go_meet
                      all_goals first
                        | exact ⟨_, rfl, rfl, S4.out.keep (stepB BB (below_alloc _ _))⟩
                        | exact ⟨_, rfl, rfl, S4.out.keep (below_set3 BB _ _ _ (by first | omega | (simp only [World.size_alloc, drew_sz] at *; omega)))⟩
                    case rest =>
                      obtain ⟨nt, rfl, rfl, hS5⟩ := hcut
                      have S5 := Lib.hid hS5
                      clear hS5
                      go_wp2_with fail
                      go_roundw
                      case rel => exact ⟨m + 1, by omega, by omega, by go_num, by rw [ST.out], S5.out⟩
                      case measure => simp [intOf]; omega
                  | some u =>
                    rw [hs] at ST0
                    rw [hs] at CA
                    have ST := Lib.hid (show standT x a b = some u from ST0.out)
                    clear ST0
                    go_upto_region 8 with fail
                    go_cut [9, 10] (fun v f wc => ∃ nt, v = .pointer (some ⟨nt, 0, none⟩) ∧ f = .bool true ∧ S3 w wc a b (some ⟨ga, oa, none⟩) (some ⟨gb, 0, none⟩) ca cb ∧ ∃ A2 c2 l1 h1, Box3 wc nt (.int .i64 u.k) (.int .i64 u.i) (.slice A2 u.ks.length c2) ∧ lo ≤ l1 ∧ h1 ≤ hi ∧ OwnT w0 l1 h1 u A2 c2)
                    case first =>
                      have BB : Below wr.drew.heap.size wr.drew wr.drew := Below.refl _ _
                      go_region_held3 (fun w' => (w'.cell? ⟨w.heap.size, 2, none⟩ = some (.slice (some ⟨ga, oa, none⟩) a.ks.length ca) ∧ w'.cell? ⟨w.heap.size + 1, 2, none⟩ = some (.slice (some ⟨gb, 0, none⟩) b.ks.length cb)) ∧ ((w'.cell? ⟨ga, oa + m * 3, none⟩ = some (.int .i64 qa.k) ∧ w'.cell? ⟨ga, oa + m * 3 + 1, none⟩ = some (.int .i64 qa.i) ∧ w'.cell? ⟨ga, oa + m * 3 + 2, none⟩ = some (.slice Aa qa.ks.length ka)) ∧ (w'.cell? ⟨gb, m * 3, none⟩ = some (.int .i64 qb.k) ∧ w'.cell? ⟨gb, m * 3 + 1, none⟩ = some (.int .i64 qb.i) ∧ w'.cell? ⟨gb, m * 3 + 2, none⟩ = some (.slice Ab qb.ks.length kb))))
                        (first | exact SS.out _ BB | exact SS.out _ (stepB BB (below_alloc _ _)) | exact SS.out _ (below_set3 BB _ _ _ (by first | omega | (simp only [World.size_alloc, drew_sz] at *; omega))))
                        (first
                          | (go_at_call 84; refine (CA.out _ (by first | (with_reducible exact BB) | (with_reducible exact stepB BB (below_alloc _ _)) | exact BB | exact stepB BB (below_alloc _ _))).mono ?_; rintro e w6 ⟨hb6, A2, c2, l1, h1, rfl, g1, g2, g3⟩; have G := Lib.hid (And.intro (Nat.le_trans hlo' g1) (And.intro (Nat.le_trans g2 hhi') g3)); clear g1 g2 g3; (first | replace BB := stepB BB hb6 | (have NB := boxA hb6; replace BB := stepA BB hb6) | (have NB := boxD hb6; replace BB := stepD hb6)); have hsz6 := BB.size; (try (obtain ⟨z0, z1, z2⟩ := NB.cells; have f0 := NB.frozen 0; have f1 := NB.frozen 1; have f2 := NB.frozen 2)); clear hb6))
                      all_goals go_wp2_with fail
                      all_goals go_meet
                      all_goals first
                        | exact ⟨_, rfl, rfl, S4.out.keep (stepB BB (below_alloc _ _)), A2, c2, l1, h1, Box3.new _ _ _ _, G.out⟩
                        | exact ⟨_, rfl, rfl, S4.out.keep (below_set3 BB _ _ _ (by first | omega | (simp only [World.size_alloc, drew_sz] at *; omega))), A2, c2, l1, h1, NB.setall _ _ _, G.out⟩
                    case rest =>
                      obtain ⟨nt, rfl, rfl, hS5, A2, c2, l1, h1, hN, g1, g2, g3⟩ := hcut
                      have S5 := Lib.hid hS5
                      have G := Lib.hid (And.intro g1 (And.intro g2 g3))
                      obtain ⟨n0, n1, n2⟩ := hN.cells
                      have f0 := hS5.r.frozen 0
                      have f1 := hS5.r.frozen 1
                      have f2 := hS5.r.frozen 2
                      obtain ⟨r0, r1, r2⟩ := hS5.r.cells
                      clear hS5 hN g1 g2 g3
                      go_wp2_with fail
                      obtain ⟨z0, z1, z2⟩ := (S5.out.r.setall (.int .i64 u.k) (.int .i64 u.i) (.slice A2 u.ks.length c2)).cells
                      refine bodyPost_ret (v := .tuple #[.agg #[.int .i64 u.k, .int .i64 u.i, .slice A2 u.ks.length c2], .bool true]) (by simp [results, Tryz.results84, go_sem, z0, z1, z2]) rfl ?_
                      rw [ST.out]
                      exact ⟨below_set3 S5.out.bel _ _ _ (by omega), A2, c2, l1, h1, rfl, G.out⟩
                · have hge : ¬ (m : Int) < (b.ks.length : Int) := by omega
                  have R := Lib.hid (show standT x a b = none by rw [HST.out, standL_end (by omega)])
                  obtain ⟨r0, r1, r2⟩ := S4'.out.r.cells
                  have f0 := S4'.out.r.frozen 0
                  have f1 := S4'.out.r.frozen 1
                  have f2 := S4'.out.r.frozen 2
                  go_wp2_with fail
                  obtain ⟨z0, z1, z2⟩ := (S4'.out.r.setall (.int .i64 0) (.int .i64 0) (.slice none 0 0)).cells
                  refine bodyPost_ret (v := .tuple #[.agg #[.int .i64 0, .int .i64 0, .slice none 0 0], .bool false]) (by simp [results, Tryz.results84, go_sem, z0, z1, z2]) rfl ?_
                  rw [R.out]
                  exact ⟨below_set3 S4'.out.bel _ _ _ (by omega), rfl⟩
            · have hab' : ¬ (b.ks.length : Int) < (a.ks.length : Int) := by omega
              go_wp2_with fail
              go_loopw [8, 10, 38] (fun _ _ i wr => ∃ m : Nat, m ≤ a.ks.length ∧ m ≤ b.ks.length ∧ i = .int .i64 (m : Int) ∧ standT x a b = standL x (a.ks.drop m) (b.ks.drop m) ∧ S3 w wr a b A B ca cb) (fun _ _ i _ => a.ks.length - (intOf i).toNat)
              case atStart => exact ⟨0, Nat.zero_le _, Nat.zero_le _, rfl, E.out, S2.out⟩
              case round =>
                obtain ⟨m, hma, hmb, rfl, hst, hS⟩ := hrel
                have HST := Lib.hid hst
                have S4' := Lib.hid hS
                clear hst hS a0 a1 a2 b0 b1 b2
                by_cases hlt : m < a.ks.length
                · have hla : m < a.ks.length := by omega
                  have hlb' : m < b.ks.length := by omega
                  have ST0 := Lib.hid (HST.out.trans (standL_at hla hlb'))
                  have kz := kid_sz a m hla
                  obtain ⟨ga, oa, Aa, ka, rfl, hga, p0, p1, p2, hka⟩ := HA.out.kid m hla
                  obtain ⟨gb, Ab, kb, lo', hi', rfl, hg1, hg2, hg3, q0, q1, q2, hlo', hhi', hkb⟩ := HB.out.kidAt m hlb'
                  have HFq := Lib.hid (((fit_eq b).1 HF.out).2 b.ks[m] (List.getElem_mem hlb'))
                  obtain ⟨qa, hqa⟩ : ∃ qa, qa = a.ks[m] := ⟨_, rfl⟩
                  obtain ⟨qb, hqb⟩ : ∃ qb, qb = b.ks[m] := ⟨_, rfl⟩
                  rw [← hqa] at p0 p1 p2 hka ST0 kz
                  rw [← hqb] at q0 q1 q2 hkb ST0 HFq
                  have CA := Lib.hid (fun (W : World) (h : Below wr.drew.heap.size wr.drew W) => (IH.out qa qb Aa Ab ka kb lo' hi' W (by omega) (HW.out.trans ((stepB (stepB S4'.out.bel (Below.refl _ wr).drew) h).mono hB0)) (Nat.le_trans hB0 (stepB (stepB S4'.out.bel (Below.refl _ wr).drew) h).size) hka hkb (by omega) HFq.out))
                  have x2 := S4'.out.xa.cells.2.2
                  have y2 := S4'.out.xb.cells.2.2
                  have hBr : Below B0 w0 wr := HW.out.trans (S4'.out.bel.mono hB0)
                  have SS := Lib.hid (fun (W : World) (h : Below wr.drew.heap.size wr.drew W) => (by
                    have hb : Below B0 w0 W := HW.out.trans ((stepB (stepB S4'.out.bel (Below.refl _ wr).drew) h).mono hB0)
                    have hw : Below wr.heap.size wr W := stepB (Below.refl _ wr).drew h
                    exact ⟨⟨(hw.cell (block_lt_of_cell x2)).trans x2, (hw.cell (block_lt_of_cell y2)).trans y2⟩, ⟨(hb.cell hga).trans p0, (hb.cell hga).trans p1, (hb.cell hga).trans p2⟩, (hb.cell (p := ⟨gb, m * 3, none⟩) (by show gb < B0; omega)).trans q0, (hb.cell (p := ⟨gb, m * 3 + 1, none⟩) (by show gb < B0; omega)).trans q1, (hb.cell (p := ⟨gb, m * 3 + 2, none⟩) (by show gb < B0; omega)).trans q2⟩ : (W.cell? ⟨w.heap.size, 2, none⟩ = some (.slice (some ⟨ga, oa, none⟩) a.ks.length ca) ∧ W.cell? ⟨w.heap.size + 1, 2, none⟩ = some (.slice (some ⟨gb, 0, none⟩) b.ks.length cb)) ∧ ((W.cell? ⟨ga, oa + m * 3, none⟩ = some (.int .i64 qa.k) ∧ W.cell? ⟨ga, oa + m * 3 + 1, none⟩ = some (.int .i64 qa.i) ∧ W.cell? ⟨ga, oa + m * 3 + 2, none⟩ = some (.slice Aa qa.ks.length ka)) ∧ (W.cell? ⟨gb, m * 3, none⟩ = some (.int .i64 qb.k) ∧ W.cell? ⟨gb, m * 3 + 1, none⟩ = some (.int .i64 qb.i) ∧ W.cell? ⟨gb, m * 3 + 2, none⟩ = some (.slice Ab qb.ks.length kb)))))
                  have CB := Lib.hid (fun (W : World) (h : Below wr.drew.heap.size wr.drew W) {e : Ending} {w6 : World} (o : Option Tr) (ho : standT x qa qb = o) => True.intro)
                  have S4 := Lib.hid (S4'.out.keep (Below.refl _ _).drew)
                  have hm0 : (0 : Int) ≤ (m : Int) := by omega
                  have hm1 : (m : Int) < (a.ks.length : Int) := by omega
                  have hm2 : (m : Int) < (b.ks.length : Int) := by omega
                  clear hqa hqb p0 p1 p2 hka q0 q1 q2 hkb x2 y2 hBr CB
                  cases hs : standT x qa qb with
                  | none =>
                    rw [hs] at ST0
                    rw [hs] at CA
                    have ST := Lib.hid (show standT x a b = standL x (a.ks.drop (m + 1)) (b.ks.drop (m + 1)) from ST0.out)
                    clear ST0
                    go_upto_region 8 with fail
                    go_cut [9, 10] (fun v f wc => ∃ nt, v = .pointer (some ⟨nt, 0, none⟩) ∧ f = .bool false ∧ S3 w wc a b (some ⟨ga, oa, none⟩) (some ⟨gb, 0, none⟩) ca cb)
                    case first =>
                      have BB : Below wr.drew.heap.size wr.drew wr.drew := Below.refl _ _
                      go_region_held3 (fun w' => (w'.cell? ⟨w.heap.size, 2, none⟩ = some (.slice (some ⟨ga, oa, none⟩) a.ks.length ca) ∧ w'.cell? ⟨w.heap.size + 1, 2, none⟩ = some (.slice (some ⟨gb, 0, none⟩) b.ks.length cb)) ∧ ((w'.cell? ⟨ga, oa + m * 3, none⟩ = some (.int .i64 qa.k) ∧ w'.cell? ⟨ga, oa + m * 3 + 1, none⟩ = some (.int .i64 qa.i) ∧ w'.cell? ⟨ga, oa + m * 3 + 2, none⟩ = some (.slice Aa qa.ks.length ka)) ∧ (w'.cell? ⟨gb, m * 3, none⟩ = some (.int .i64 qb.k) ∧ w'.cell? ⟨gb, m * 3 + 1, none⟩ = some (.int .i64 qb.i) ∧ w'.cell? ⟨gb, m * 3 + 2, none⟩ = some (.slice Ab qb.ks.length kb))))
                        (first | exact SS.out _ BB | exact SS.out _ (stepB BB (below_alloc _ _)) | exact SS.out _ (below_set3 BB _ _ _ (by first | omega | (simp only [World.size_alloc, drew_sz] at *; omega))))
                        (first
                          | (go_at_call 84; refine (CA.out _ (by first | (with_reducible exact BB) | (with_reducible exact stepB BB (below_alloc _ _)) | exact BB | exact stepB BB (below_alloc _ _))).mono ?_; rintro e w6 ⟨hb6, rfl⟩; (first | replace BB := stepB BB hb6 | (have NB := boxA hb6; replace BB := stepA BB hb6) | (have NB := boxD hb6; replace BB := stepD hb6)); have hsz6 := BB.size; (try (obtain ⟨z0, z1, z2⟩ := NB.cells; have f0 := NB.frozen 0; have f1 := NB.frozen 1; have f2 := NB.frozen 2)); clear hb6))
                      all_goals go_wp2_with fail
                      all_goals go_meet
                      all_goals first
                        | exact ⟨_, rfl, rfl, S4.out.keep (stepB BB (below_alloc _ _))⟩
                        | exact ⟨_, rfl, rfl, S4.out.keep (below_set3 BB _ _ _ (by first | omega | (simp only [World.size_alloc, drew_sz] at *; omega)))⟩
                    case rest =>
                      obtain ⟨nt, rfl, rfl, hS5⟩ := hcut
                      have S5 := Lib.hid hS5
                      clear hS5
                      go_wp2_with fail
                      go_roundw
                      case rel => exact ⟨m + 1, by omega, by omega, by go_num, by rw [ST.out], S5.out⟩
                      case measure => simp [intOf]; omega
                  | some u =>
                    rw [hs] at ST0
                    rw [hs] at CA
                    have ST := Lib.hid (show standT x a b = some u from ST0.out)
                    clear ST0
                    go_upto_region 8 with fail
                    go_cut [9, 10] (fun v f wc => ∃ nt, v = .pointer (some ⟨nt, 0, none⟩) ∧ f = .bool true ∧ S3 w wc a b (some ⟨ga, oa, none⟩) (some ⟨gb, 0, none⟩) ca cb ∧ ∃ A2 c2 l1 h1, Box3 wc nt (.int .i64 u.k) (.int .i64 u.i) (.slice A2 u.ks.length c2) ∧ lo ≤ l1 ∧ h1 ≤ hi ∧ OwnT w0 l1 h1 u A2 c2)
                    case first =>
                      have BB : Below wr.drew.heap.size wr.drew wr.drew := Below.refl _ _
                      go_region_held3 (fun w' => (w'.cell? ⟨w.heap.size, 2, none⟩ = some (.slice (some ⟨ga, oa, none⟩) a.ks.length ca) ∧ w'.cell? ⟨w.heap.size + 1, 2, none⟩ = some (.slice (some ⟨gb, 0, none⟩) b.ks.length cb)) ∧ ((w'.cell? ⟨ga, oa + m * 3, none⟩ = some (.int .i64 qa.k) ∧ w'.cell? ⟨ga, oa + m * 3 + 1, none⟩ = some (.int .i64 qa.i) ∧ w'.cell? ⟨ga, oa + m * 3 + 2, none⟩ = some (.slice Aa qa.ks.length ka)) ∧ (w'.cell? ⟨gb, m * 3, none⟩ = some (.int .i64 qb.k) ∧ w'.cell? ⟨gb, m * 3 + 1, none⟩ = some (.int .i64 qb.i) ∧ w'.cell? ⟨gb, m * 3 + 2, none⟩ = some (.slice Ab qb.ks.length kb))))
                        (first | exact SS.out _ BB | exact SS.out _ (stepB BB (below_alloc _ _)) | exact SS.out _ (below_set3 BB _ _ _ (by first | omega | (simp only [World.size_alloc, drew_sz] at *; omega))))
                        (first
                          | (go_at_call 84; refine (CA.out _ (by first | (with_reducible exact BB) | (with_reducible exact stepB BB (below_alloc _ _)) | exact BB | exact stepB BB (below_alloc _ _))).mono ?_; rintro e w6 ⟨hb6, A2, c2, l1, h1, rfl, g1, g2, g3⟩; have G := Lib.hid (And.intro (Nat.le_trans hlo' g1) (And.intro (Nat.le_trans g2 hhi') g3)); clear g1 g2 g3; (first | replace BB := stepB BB hb6 | (have NB := boxA hb6; replace BB := stepA BB hb6) | (have NB := boxD hb6; replace BB := stepD hb6)); have hsz6 := BB.size; (try (obtain ⟨z0, z1, z2⟩ := NB.cells; have f0 := NB.frozen 0; have f1 := NB.frozen 1; have f2 := NB.frozen 2)); clear hb6))
                      all_goals go_wp2_with fail
                      all_goals go_meet
                      all_goals first
                        | exact ⟨_, rfl, rfl, S4.out.keep (stepB BB (below_alloc _ _)), A2, c2, l1, h1, Box3.new _ _ _ _, G.out⟩
                        | exact ⟨_, rfl, rfl, S4.out.keep (below_set3 BB _ _ _ (by first | omega | (simp only [World.size_alloc, drew_sz] at *; omega))), A2, c2, l1, h1, NB.setall _ _ _, G.out⟩
                    case rest =>
                      obtain ⟨nt, rfl, rfl, hS5, A2, c2, l1, h1, hN, g1, g2, g3⟩ := hcut
                      have S5 := Lib.hid hS5
                      have G := Lib.hid (And.intro g1 (And.intro g2 g3))
                      obtain ⟨n0, n1, n2⟩ := hN.cells
                      have f0 := hS5.r.frozen 0
                      have f1 := hS5.r.frozen 1
                      have f2 := hS5.r.frozen 2
                      obtain ⟨r0, r1, r2⟩ := hS5.r.cells
                      clear hS5 hN g1 g2 g3
                      go_wp2_with fail
                      obtain ⟨z0, z1, z2⟩ := (S5.out.r.setall (.int .i64 u.k) (.int .i64 u.i) (.slice A2 u.ks.length c2)).cells
                      refine bodyPost_ret (v := .tuple #[.agg #[.int .i64 u.k, .int .i64 u.i, .slice A2 u.ks.length c2], .bool true]) (by simp [results, Tryz.results84, go_sem, z0, z1, z2]) rfl ?_
                      rw [ST.out]
                      exact ⟨below_set3 S5.out.bel _ _ _ (by omega), A2, c2, l1, h1, rfl, G.out⟩
                · have hge : ¬ (m : Int) < (a.ks.length : Int) := by omega
                  have R := Lib.hid (show standT x a b = none by rw [HST.out, standL_end (by omega)])
                  obtain ⟨r0, r1, r2⟩ := S4'.out.r.cells
                  have f0 := S4'.out.r.frozen 0
                  have f1 := S4'.out.r.frozen 1
                  have f2 := S4'.out.r.frozen 2
                  go_wp2_with fail
                  obtain ⟨z0, z1, z2⟩ := (S4'.out.r.setall (.int .i64 0) (.int .i64 0) (.slice none 0 0)).cells
                  refine bodyPost_ret (v := .tuple #[.agg #[.int .i64 0, .int .i64 0, .slice none 0 0], .bool false]) (by simp [results, Tryz.results84, go_sem, z0, z1, z2]) rfl ?_
                  rw [R.out]
                  exact ⟨below_set3 S4'.out.bel _ _ _ (by omega), rfl⟩
end Go.Proofs.YtgnfbhemkombaaaGreat
namespace Go.Proofs.YtgnfbhemkombaaaGreat
open Go.RowKit
set_option linter.unusedVariables false
set_option linter.unusedSimpArgs false
/-- what was laid, and has stayed -/
structure Trg (w0 W : World) (L : List (Nat × Obj)) : Prop where
  bel : Below w0.heap.size w0 W
  mem : ∀ q ∈ L, q.1 < W.heap.size ∧ w0.heap.size ≤ q.1 ∧ W.heap[q.1]? = some q.2
theorem Trg.nil (w : World) : Trg w w [] := ⟨Below.refl _ _, by simp⟩
theorem Trg.al {w0 W : World} {L : List (Nat × Obj)} (h : Trg w0 W L) (o : Obj) : Trg w0 (W.alloc o) ((W.heap.size, o) :: L) := by
  refine ⟨bl_trans h.bel (alB _ _), fun q hq => ?_⟩
  rcases List.mem_cons.1 hq with rfl | hq
  · exact ⟨by simp, h.bel.size, new_at W _⟩
  · obtain ⟨h1, h2, h3⟩ := h.mem q hq
    exact ⟨by simp; omega, h2, (Below.heap_alloc _ _ _ h1).trans h3⟩
theorem Trg.call {w0 W W' : World} {L : List (Nat × Obj)} (h : Trg w0 W L) (hb : Below W.heap.size W W') : Trg w0 W' L :=
  ⟨bl_trans h.bel hb, fun q hq => ⟨Nat.lt_of_lt_of_le (h.mem q hq).1 hb.size, (h.mem q hq).2.1, (hb.block q.1 (h.mem q hq).1).trans (h.mem q hq).2.2⟩⟩
theorem Trg.dr {w0 W : World} {L : List (Nat × Obj)} (h : Trg w0 W L) : Trg w0 W.drew L := ⟨bl_trans h.bel (Below.refl _ _).drew, h.mem⟩
theorem Trg.box {w0 W : World} {L : List (Nat × Obj)} (h : Trg w0 W L) {r : Nat} {A : Option Addr} {n c : Nat} {x : Int} (hm : (r, (Obj.cells #[.slice A n c, .int .i64 x] 32)) ∈ L) : BoxP W r A n c x := (h.mem _ hm).2.2
theorem Trg.boxAt {w0 W : World} {L : List (Nat × Obj)} (h : Trg w0 W L) {j r : Nat} {A : Option Addr} {n c : Nat} {x : Int} (hm : L[j]? = some (r, (Obj.cells #[.slice A n c, .int .i64 x] 32))) : BoxP W r A n c x := (h.mem _ (List.mem_of_getElem? hm)).2.2
/-- the function that partsAt answers, where its paths have been laid -/
theorem partsAt_laid {w0 W : World} {L : List (Nat × Obj)} (T : Trg w0 W L) (Q r0 r1 : Nat) (p0 p1 : List Int) (hq : (Q, (Obj.cells #[.slice (some ⟨r0, 0, none⟩) p0.length p0.length, .slice (some ⟨r1, 0, none⟩) p1.length p1.length] 25)) ∈ L)
    (h0 : (r0, (Obj.cells (p0.map (Value.int .i64)).toArray 3)) ∈ L) (h1 : (r1, (Obj.cells (p1.map (Value.int .i64)).toArray 3)) ∈ L) :
    Calls Tryz.prog 37 #[.slice (some ⟨Q, 0, none⟩) 2 2] W fun e w' => ∃ p, e = .returned (.func (.func 77) #[] #[.pointer (some ⟨p, 0, none⟩)]) ∧ PathsBox w' 0 w'.heap.size p [p0, p1] ∧ Below W.heap.size W w' := by
  refine (partsAt_any _ _ _ _).mono ?_
  rintro e w' ⟨⟨p, rfl, hl, hp, hc⟩, hb⟩
  have T' := T.call hb
  obtain ⟨q1, _, q2⟩ := T'.mem _ hq
  obtain ⟨a1, _, a2⟩ := T'.mem _ h0
  obtain ⟨b1, _, b2⟩ := T'.mem _ h1
  refine ⟨p, rfl, ⟨Nat.zero_le _, hp, Q, Nat.zero_le _, q1, hc, fun j hj => ?_⟩, hb⟩
  have path : ∀ (r : Nat) (z : List Int), w'.heap[r]? = some (.cells (z.map (Value.int .i64)).toArray 3 (0, 0)) → PathAt w' r z := fun r z hr i hi => by
    unfold World.cell?
    rw [hr]
    simp [hi]
  match j, hj with
  | 0, _ => exact ⟨r0, Nat.zero_le _, a1, by unfold World.cell?; rw [q2]; rfl, path r0 p0 a2⟩
  | 1, _ => exact ⟨r1, Nat.zero_le _, b1, by unfold World.cell?; rw [q2]; rfl, path r1 p1 b2⟩
/-- the boxes of a split -/
structure SB (w W : World) (t : Tr) (A : Option Addr) (c : Nat) : Prop where
  xb : Box3 W w.heap.size (.int .i64 t.k) (.int .i64 t.i) (.slice A t.ks.length c)
  rb : BoxP W (w.heap.size + 1) none 0 0 0
  bel : Below w.heap.size w W
theorem SB.keep {w W W' : World} {t : Tr} {A : Option Addr} {c : Nat} (h : SB w W t A c) (hb : Below W.heap.size W W') : SB w W' t A c :=
  ⟨h.xb.keep hb h.xb.lt, h.rb.keep hb h.rb.lt, bl_trans h.bel hb⟩
theorem SB.start (w : World) (t : Tr) (A : Option Addr) (c : Nat) :
    SB w ((w.alloc (.cells #[.int .i64 t.k, .int .i64 t.i, .slice A t.ks.length c] 24)).alloc (.cells #[.slice none 0 0, .int .i64 0] 32)) t A c := by
  refine ⟨(Box3.new w _ _ _).keep (alB _ _) (by simp), ?_, bl_trans (alB _ _) (alB _ _)⟩
  have h := BoxP.new (w.alloc (.cells #[.int .i64 t.k, .int .i64 t.i, .slice A t.ks.length c] 24)) none 0 0 0
  simpa using h
theorem SB.setP {w W : World} {t : Tr} {A : Option Addr} {c nv : Nat} (h : SB w W t A c) (hn : w.heap.size + 2 ≤ nv) (o : Nat) (v : Value) : SB w (W.setCell ⟨nv, o, none⟩ v) t A c :=
  ⟨h.xb.set_other _ _ (by show w.heap.size ≠ nv; omega), h.rb.other _ _ (by show w.heap.size + 1 ≠ nv; omega), h.bel.setCell (p := ⟨nv, o, none⟩) (by show w.heap.size ≤ nv; omega) _⟩
/-- an answer: parts, all of their memory new -/
def SplitP (w : World) (o : Option (List Tr × Int)) (e : Ending) (w' : World) : Prop :=
  Below w.heap.size w w' ∧ match o with
    | none => e = .returned (.tuple #[.agg #[.slice none 0 0, .int .i64 0], .bool false])
    | some p => ∃ A c, e = .returned (.tuple #[.agg #[.slice A p.1.length c, .int .i64 p.2], .bool true]) ∧ FrT (fun k => k < w.heap.size) w' (.node 0 0 p.1) A c
/-- the list of the parts, one's own, and the box that leads to it -/
structure PL (w W : World) (nv lo hi : Nat) (l : List Tr) (A : Option Addr) (c : Nat) (x : Int) : Prop where
  pb : BoxP W nv A l.length c x
  own : OwnT W lo hi (.node 0 0 l) A c
  hlo : w.heap.size + 2 ≤ lo
  hhi : hi ≤ W.heap.size
  away : nv < lo ∨ hi ≤ nv
  hnv : w.heap.size + 2 ≤ nv
theorem PL.keep {w W W' : World} {nv lo hi : Nat} {l : List Tr} {A : Option Addr} {c : Nat} {x : Int} (h : PL w W nv lo hi l A c x) (hb : Below W.heap.size W W') : PL w W' nv lo hi l A c x :=
  ⟨h.pb.keep hb h.pb.lt, OwnT.same _ (SameIn.of_below hb h.hhi) h.own, h.hlo, Nat.le_trans h.hhi hb.size, h.away, h.hnv⟩
theorem OwnT.off {W : World} {nv lo hi o : Nat} {t : Tr} {A : Option Addr} {c : Nat} (h : OwnT W lo hi t A c) (ha : nv < lo ∨ hi ≤ nv) (v : Value) : OwnT (W.setCell ⟨nv, o, none⟩ v) lo hi t A c :=
  OwnT.same _ (fun b h1 h2 => heap_setCell_other _ _ _ _ (by show b ≠ nv; omega)) h
theorem fit_list {l : List Tr} (hl : l.length ≤ 4) (h : ∀ q ∈ l, q.fit) : (Tr.node 0 0 l).fit := (fit_eq _).2 ⟨by show Cap l.length; unfold Cap; omega, h⟩
theorem partAt_right {p : List Int} : ∀ {t q : Tr}, rightN t = 0 → partAt t p = some q → rightN q = 0 := by
  induction p with
  | nil => intro t q h hp; rw [partAt_nil] at hp; cases hp; exact h
  | cons i r ih =>
    intro t q h hp
    by_cases hi : 0 ≤ i ∧ i.toNat < t.ks.length
    · rw [partAt_in t i r hi.1 hi.2] at hp
      exact ih (right_kid h (List.getElem_mem hi.2)) hp
    · rw [partAt_out t i r hi] at hp; cases hp
theorem partsAtT_right {t : Tr} (h : rightN t = 0) : ∀ {ps : List (List Int)} {l : List Tr}, partsAtT t ps = some l → ∀ q ∈ l, rightN q = 0
  | [], l, hp, q, hq => by simp [partsAtT] at hp; subst hp; simp at hq
  | p :: r, l, hp, q, hq => by
    unfold partsAtT at hp
    cases h1 : partAt t p with
    | none => rw [h1] at hp; cases hp
    | some u =>
      cases h2 : partsAtT t r with
      | none => rw [h1, h2] at hp; cases hp
      | some m =>
        rw [h1, h2] at hp
        cases hp
        rcases List.mem_cons.1 hq with rfl | hq
        · exact partAt_right h h1
        · exact partsAtT_right h h2 q hq
theorem shp_fit9 (t : Tr) : t.shp = true → t.fit := by
  induction t using Tr.ind with
  | h t ih =>
    intro h
    have hk := vok_kids h
    have hn := (kind_of_shp t h).2.2.2.2
    exact (fit_eq t).2 ⟨by unfold Cap; omega, fun q hq => ih q hq (hk q hq)⟩
theorem right_fit9 {t : Tr} (h : rightN t = 0) : t.fit := shp_fit9 t (right_shp' h).1
end Go.Proofs.YtgnfbhemkombaaaGreat
namespace Go.Proofs.YtgnfbhemkombaaaGreat
set_option linter.unusedVariables false
set_option linter.unusedSimpArgs false
theorem stand_right (x : Int) (a : Tr) : ∀ {b u : Tr}, rightN b = 0 → standT x a b = some u → rightN u = 0 := by
  induction a using Tr.ind with
  | h a ih =>
    intro b u hb hs
    rw [standT_eq] at hs
    by_cases hv : a.k = 1 ∧ a.i = x
    · rw [if_pos hv] at hs; cases hs; exact hb
    · rw [if_neg hv] at hs
      by_cases hq : (a.k = 7 ∨ a.k = 10) ∧ a.i = x
      · rw [if_pos hq] at hs; cases hs
      · rw [if_neg hq] at hs
        have hl : ∀ (l r : List Tr), (∀ q ∈ l, ∀ {b u : Tr}, rightN b = 0 → standT x q b = some u → rightN u = 0) → (∀ q ∈ r, rightN q = 0) → ∀ u, standL x l r = some u → rightN u = 0 := by
          intro l
          induction l with
          | nil => intro r _ _ u h; rw [standL_nil] at h; cases h
          | cons q l ihl =>
            intro r h1 h2 u h
            cases r with
            | nil => rw [standL_none] at h; cases h
            | cons p r =>
              rw [standL_cons] at h
              cases hs' : standT x q p with
              | some v => rw [hs'] at h; cases h; exact h1 q (by simp) (h2 p (by simp)) hs'
              | none => rw [hs'] at h; exact ihl r (fun y hy => h1 y (by simp [hy])) (fun y hy => h2 y (by simp [hy])) u h
        exact hl a.ks b.ks (fun q hq' => ih q hq') (fun q hq' => right_kid hb hq') u hs
theorem fill_right {k : Nat} (h1 : 1 ≤ k) (h7 : k ≤ 7) {e : Tr} {l : List Tr} {x : Int} (hr : rightN e = 0) (hm : fillV k l x = (e, 0)) (hl : l.length = (sortsL k).length) : ∀ q ∈ l, rightN q = 0 := by
  have hk : k = 1 ∨ k = 2 ∨ k = 3 ∨ k = 4 ∨ k = 5 ∨ k = 6 ∨ k = 7 := by omega
  rcases hk with rfl | rfl | rfl | rfl | rfl | rfl | rfl
  · obtain ⟨a, b, rfl⟩ := list_two (l := l) (by simpa [sortsL] using hl)
    obtain rfl : impT a (impT b a) = e := congrArg Prod.fst hm
    have r1 := right_imp hr
    have r2 := right_imp r1.2.1
    simp [r1.1, r2.1]
  · obtain ⟨a, b, d, rfl⟩ := list_three (l := l) (by simpa [sortsL] using hl)
    obtain rfl : impT (impT a (impT b d)) (impT (impT a b) (impT a d)) = e := congrArg Prod.fst hm
    have r1 := right_imp (right_imp hr).1
    have r2 := right_imp r1.2.1
    simp [r1.1, r2.1, r2.2.1]
  · obtain ⟨a, b, rfl⟩ := list_two (l := l) (by simpa [sortsL] using hl)
    obtain rfl : impT (impT (notT a) (notT b)) (impT b a) = e := congrArg Prod.fst hm
    have r1 := right_imp (right_imp hr).2.1
    simp [r1.1, r1.2.1]
  · obtain ⟨a, t, rfl⟩ := list_two (l := l) (by simpa [sortsL] using hl)
    have h4 : fill4R a t x = (e, 0) := hm
    have hra : rightN a = 0 ∧ rightN t = 0 := by
      unfold fill4R at h4
      by_cases hb : 1000 < 2 + a.sz + (a.sz + occN x a * (t.sz - 1))
      · rw [if_pos hb] at h4; exact absurd (congrArg Prod.snd h4) (by simp)
      · rw [if_neg hb] at h4
        by_cases hz : (eachR a [(x, t)]).2 = 0
        · have he : eachN a [(x, t)] = 0 := by
            unfold eachR at hz
            by_cases hn : eachN a [(x, t)] = 0
            · exact hn
            · rw [if_neg hn] at hz; exact hz
          have hf : faultE a [(x, t)] = 0 := by
            unfold eachN at he
            by_cases hn : faultE a [(x, t)] = 0
            · exact hn
            · rw [if_pos hn] at he; exact he
          unfold faultE at hf
          by_cases hA : argE [(x, t)] 0 = false
          · rw [if_pos hA] at hf; cases hf
          · rw [if_neg hA] at hf
            by_cases hra : rightN a = 0
            · rw [if_neg (fun hh => hh hra)] at hf
              by_cases hrt : rightL [(x, t)] = 0
              · exact ⟨hra, rightL_all hrt (x, t) (by simp)⟩
              · rw [if_pos hrt] at hf; exact absurd hf hrt
            · rw [if_pos hra] at hf; exact absurd hf hra
        · rw [if_pos hz] at h4; exact absurd (congrArg Prod.snd h4) hz
    simp [hra.1, hra.2]
  · obtain ⟨a, b, rfl⟩ := list_two (l := l) (by simpa [sortsL] using hl)
    obtain rfl : impT (allT x (impT a b)) (impT a (allT x b)) = e := congrArg Prod.fst hm
    have r0 := right_imp hr
    have ra := right_all r0.1
    have r1 := right_imp ra.1
    simp [r1.1, r1.2.1]
  · obtain ⟨a, rfl⟩ := list_one (l := l) (by simpa [sortsL] using hl)
    obtain rfl : eqT a a = e := congrArg Prod.fst hm
    have r1 := right_eq hr
    simp [r1.1]
  · obtain ⟨t, u, a, b, rfl⟩ := list_four (l := l) (by simpa [sortsL] using hl)
    obtain rfl : impT (eqT t u) (impT a b) = e := congrArg Prod.fst hm
    have r0 := right_imp hr
    have r1 := right_eq r0.1
    have r2 := right_imp r0.2.1
    simp [r1.1, r1.2.1, r2.1, r2.2.1]
theorem split_sz {k : Nat} (h1 : 1 ≤ k) (h7 : k ≤ 7) {e : Tr} {p : List Tr × Int} (hr : rightN e = 0) (h : splitV k e = some p) : ∀ q ∈ p.1, q.sz ≤ 1000 := by
  have rs : ∀ q : Tr, rightN q = 0 → q.sz ≤ 1000 := fun q hq => (right_shp' hq).2.1
  unfold splitV at h
  cases hp : partsAtT e (pathsL k) with
  | none => rw [hp] at h; cases h
  | some l =>
    have hl := partsAtT_right hr hp
    have hn := partsAtT_len hp
    rw [hp] at h
    simp only at h
    by_cases h4 : k = 4
    · subst h4
      rw [if_pos rfl] at h
      obtain ⟨a, b, rfl⟩ := list_two (l := l) (by simpa [pathsL] using hn)
      simp only [Option.some.injEq] at h
      subst h
      intro q hq
      rcases List.mem_cons.1 hq with rfl | hq
      · exact rs _ (hl _ (by simp))
      · obtain rfl : q = (standT (e.ks.headD zeroT).i a b).getD (varT (e.ks.headD zeroT).i) := by simpa only [List.mem_singleton] using hq
        cases hs : standT (e.ks.headD zeroT).i a b with
        | none => show (varT (e.ks.headD zeroT).i).sz ≤ 1000; simp [Tr.sz, szL]
        | some u => exact rs _ (stand_right _ a (hl b (by simp)) hs)
    · rw [if_neg h4] at h
      by_cases h5 : k = 5
      · rw [if_pos h5] at h
        cases h
        exact fun q hq => rs q (hl q hq)
      · rw [if_neg h5] at h
        cases h
        exact fun q hq => rs q (hl q hq)
end Go.Proofs.YtgnfbhemkombaaaGreat
namespace Go.Proofs.YtgnfbhemkombaaaGreat
open Go.RowKit
set_option linter.unusedVariables false
set_option linter.unusedSimpArgs false
/-- an answer: parts, and a fault -/
def PartsI (w : World) (r : Option (List Tr × Int) × Nat) (e : Ending) (w' : World) : Prop :=
  Below w.heap.size w w' ∧ match r.1 with
    | none => e = .returned (.tuple #[.agg #[.slice none 0 0, .int .i64 0], .int .i64 (r.2 : Int)])
    | some p => ∃ A c, e = .returned (.tuple #[.agg #[.slice A p.1.length c, .int .i64 p.2], .int .i64 (r.2 : Int)]) ∧ IsT w' w'.heap.size (.node 0 0 p.1) A c
theorem partsI_none {w wr : World} {r : Option (List Tr × Int) × Nat} {f : Nat} (h : r = (none, f)) (hb : Below w.heap.size w wr) {b : Nat} (hle : w.heap.size ≤ b) (u v : Value) : PartsI w r (.returned (.tuple #[.agg #[.slice none 0 0, .int .i64 0], .int .i64 (f : Int)])) ((wr.setCell ⟨b, 0, none⟩ u).setCell ⟨b, 1, none⟩ v) := by
  subst h
  exact ⟨(hb.setCell (p := ⟨b, 0, none⟩) hle _).setCell (p := ⟨b, 1, none⟩) hle _, rfl⟩
theorem partsI_plain {w wr : World} {r : Option (List Tr × Int) × Nat} {f : Nat} (h : r = (none, f)) (hb : Below w.heap.size w wr) : PartsI w r (.returned (.tuple #[.agg #[.slice none 0 0, .int .i64 0], .int .i64 (f : Int)])) wr := by
  subst h
  exact ⟨hb, rfl⟩
/-- a store into a box of another type than a tree's rows does a tree no harm -/
theorem isT_offP {w : World} {B b n c0 o : Nat} {A0 : Option Addr} {x : Int} (hbx : BoxP w b A0 n c0 x) (v : Value) : ∀ (t : Tr) {A : Option Addr} {c : Nat}, IsT w B t A c → IsT (w.setCell ⟨b, o, none⟩ v) B t A c := by
  intro t
  induction t using Tr.ind with
  | h t ih =>
    intro A c h
    refine IsT.mk h.len.1 h.len.2 fun m hm => ?_
    obtain ⟨g, q, A', c', hA, hlt, h0, h1, h2, ht⟩ := h.kid m hm
    have hne : g ≠ b := by
      rintro rfl
      have e0 : w.cell? ⟨g, q + m * 3, none⟩ = (#[.slice A0 n c0, .int .i64 x] : Array Value)[q + m * 3]? := by unfold World.cell?; rw [show w.heap[g]? = _ from hbx]; simp
      have e1 : w.cell? ⟨g, q + m * 3 + 1, none⟩ = (#[.slice A0 n c0, .int .i64 x] : Array Value)[q + m * 3 + 1]? := by unfold World.cell?; rw [show w.heap[g]? = _ from hbx]; simp
      rw [h0] at e0
      rw [h1] at e1
      generalize q + m * 3 = z at e0 e1
      match z with
      | 0 => simp at e0
      | 1 => simp at e1
      | z + 2 => simp at e0
    have e : ∀ j, (w.setCell ⟨b, o, none⟩ v).cell? ⟨g, j, none⟩ = w.cell? ⟨g, j, none⟩ := fun j => by unfold World.cell?; rw [heap_setCell_other _ _ _ _ (by show g ≠ b; exact hne)]
    exact ⟨g, q, A', c', hA, hlt, (e _).trans h0, (e _).trans h1, (e _).trans h2, ih _ (List.getElem_mem hm) ht⟩
theorem partsI_some {w wr : World} {r : Option (List Tr × Int) × Nat} {l : List Tr} {x : Int} (h : r = (some (l, x), 0)) (hb : Below w.heap.size w wr) {b n c0 : Nat} {A0 : Option Addr} {x0 : Int} (hle : w.heap.size ≤ b) (hbx : BoxP wr b A0 n c0 x0) {A : Option Addr} {c : Nat} (ht : IsT wr wr.heap.size (.node 0 0 l) A c) (A1 : Option Addr) (n1 c1 : Nat) (y : Int) :
    PartsI w r (.returned (.tuple #[.agg #[.slice A l.length c, .int .i64 x], .int .i64 0])) ((wr.setCell ⟨b, 0, none⟩ (.slice A1 n1 c1)).setCell ⟨b, 1, none⟩ (.int .i64 y)) := by
  subst h
  refine ⟨(hb.setCell (p := ⟨b, 0, none⟩) hle _).setCell (p := ⟨b, 1, none⟩) hle _, A, c, rfl, ?_⟩
  have h1 := isT_offP (o := 0) hbx (.slice A1 n1 c1) _ ht
  have h2 := isT_offP (o := 1) (hbx.set0 A1 n1 c1) (.int .i64 y) _ h1
  simpa using h2
/-- what Parts answers of the number k: the parts if p finds them -/
def partsR (p : Option (List Tr × Int)) (k : Int) (t : Tr) : Option (List Tr × Int) × Nat :=
  if ¬ (1 ≤ k ∧ k ≤ 7) then (none, 70) else if wantFN t ≠ 0 then (none, wantFN t) else match p with | none => (none, 73) | some q => (some q, 0)
/-- what Is answers, by the fault of Parts -/
def isV (f : Nat) : Bool × Nat := if f = 73 then (false, 0) else (decide (f = 0), f)
end Go.Proofs.YtgnfbhemkombaaaGreat
namespace Go.Proofs.YtgnfbhemkombaaaGreat
open Go.RowKit
set_option linter.unusedVariables false
set_option linter.unusedSimpArgs false
theorem sorted_one (t : Tr) : sortedN [t] [false] = wantFN t := by
  have h1 : firstL [t] = rightN t := by
    show (if rightN t ≠ 0 then rightN t else 0) = rightN t
    by_cases h : rightN t = 0
    · simp [h]
    · simp [h]
  have h2 : sortsB [t] [false] = !termB t.k := by
    unfold sortsB
    cases hb : termB t.k <;> simp [List.range_succ, hb]
  unfold sortedN wantFN
  rw [h1, h2]
  by_cases h : rightN t = 0
  · cases hb : termB t.k <;> simp [h]
  · simp [h]
/-- the search for a formula's fault, where its row and the row of its sort have been laid -/
theorem form_laid {w W0 W : World} {t : Tr} {A : Option Addr} {c : Nat} {L : List (Nat × Obj)} (hb : Below w.heap.size w W0) (ht : IsT w w.heap.size t A c) (T : Trg W0 W L) (g s : Nat)
    (hg : (g, (Obj.cells #[.int .i64 t.k, .int .i64 t.i, .slice A t.ks.length c] 24)) ∈ L) (hs : (s, (Obj.cells #[.func (.func 33) #[] #[]] 86)) ∈ L) :
    Calls Tryz.prog 32 #[.slice (some ⟨g, 0, none⟩) 1 1, .slice (some ⟨s, 0, none⟩) 1 1] W fun e w' => e = .returned (.int .i64 (wantFN t : Nat)) ∧ Below W.heap.size W w' := by
  obtain ⟨g1, g2, g3⟩ := T.mem _ hg
  obtain ⟨s1, s2, s3⟩ := T.mem _ hs
  have hbW : Below w.heap.size w W := bl_trans hb T.bel
  have F : FrT (fun _ => False) W t A c := FrT.ofB ht (fun k h => h.elim) hbW
  have F1 := FrT.one (X := fun _ => False) 0 0 F g3 (fun h => h)
  have SO : SortsAt W W.heap.size (some ⟨s, 0, none⟩) [false] := fun j hj => by
    obtain rfl : j = 0 := by simp at hj; omega
    refine ⟨s, 0, rfl, s1, ?_⟩
    unfold World.cell?
    rw [s3]
    rfl
  refine (listFault_any (.node 0 0 [t]) (some ⟨g, 0, none⟩) (some ⟨s, 0, none⟩) 1 1 [false] W F1.isT rfl SO).mono ?_
  rintro e w' ⟨rfl, hb'⟩
  exact ⟨by rw [show (Tr.node 0 0 [t]).ks = [t] from rfl, sorted_one], hb'⟩
set_option maxHeartbeats 4000000 in
set_option maxRecDepth 100000 in
theorem form_any (t : Tr) (A : Option Addr) (c : Nat) (w : World) (ht : IsT w w.heap.size t A c) :
    Calls Tryz.prog 16 #[.agg #[.int .i64 t.k, .int .i64 t.i, .slice A t.ks.length c]] w fun e w' => e = .returned (.int .i64 (wantFN t : Nat)) ∧ Below w.heap.size w w' := by
  obtain ⟨W0, hW0⟩ : ∃ W0, W0 = w.alloc (.cells #[.int .i64 t.k, .int .i64 t.i, .slice A t.ks.length c] 24) := ⟨_, rfl⟩
  have B0 := Lib.hid (show Below w.heap.size w W0 ∧ Box3 W0 w.heap.size (.int .i64 t.k) (.int .i64 t.i) (.slice A t.ks.length c) by rw [hW0]; exact ⟨alB w _, Box3.new w _ _ _⟩)
  have HT := Lib.hid ht
  have HW := Lib.hid hW0
  clear ht hW0
  go_enter Tryz.func16, Tryz.ntmps16
  go_upto_region 1 with fail
  rw [← HW.out]
  have SS := Lib.hid (fun (W : World) (h : Below W0.heap.size W0 W) => (B0.out.2.keep h B0.out.2.lt).cells)
  have FL := Lib.hid (fun (W : World) (L : List (Nat × Obj)) (T : Trg W0 W L) (g s : Nat) (hg : (g, (Obj.cells #[.int .i64 t.k, .int .i64 t.i, .slice A t.ks.length c] 24)) ∈ L) (hs : (s, (Obj.cells #[.func (.func 33) #[] #[]] 86)) ∈ L) => form_laid B0.out.1 HT.out T g s hg hs)
  have BB : Trg W0 W0 [] := Trg.nil _
  obtain ⟨x0, x1, x2⟩ := SS.out W0 (Below.refl _ _)
  go_wp2_with fail
  refine (FL.out _ _ ((BB.al _).al _) W0.heap.size (W0.heap.size + 1) (by simp) (by simp)).mono ?_
  rintro e w6 ⟨rfl, hb6⟩
  have B6 := Lib.hid (((BB.al _).al _).call hb6)
  clear hb6 BB x0 x1 x2
  go_wp2_with fail
  go_ret
  exact ⟨rfl, bl_trans B0.out.1 B6.out.bel⟩
end Go.Proofs.YtgnfbhemkombaaaGreat
