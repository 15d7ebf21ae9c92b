/- What is read is as the table says. -/
import Derived.Test.YtfleomamhkeiiaaP29
import Derived.Test.YtfleomamhkeiiaaP22
namespace Go.Proofs.Ytfleomamhkeiiaa
open Go.RowKit
set_option linter.unusedVariables false
set_option linter.unusedSimpArgs false
/-- a token's number is as its letter may have it -/
def tokB (t : Tok) : Prop := (t.k = 1 → t.n ≤ 63) ∧ (t.k = 2 ∨ t.k = 3 → t.n ≤ 99)
def TokOk (l : List Tok) : Prop := ∀ t ∈ l, tokB t
theorem TokOk.suf {l r : List Tok} (h : TokOk l) (hs : r <:+ l) : TokOk r := fun t ht => h t (hs.mem ht)
theorem stepN_tok {c k n z : Nat} {r : List Nat} (h : stepN c r = .tok k n z) : tokB ⟨k, n, 0⟩ := by
  unfold stepN at h
  split at h
  · cases h
  · split at h
    · cases h; exact ⟨fun e => (by cases e), fun e => by rcases e with e | e <;> cases e⟩
    · split at h
      · cases h
      · rename_i kk mm hL
        split at h
        · cases h
        · rename_i nn hN
          have hn := (numN_some hN).2
          cases h
          unfold letterN at hL
          by_cases h1 : c = 120
          · rw [if_pos h1] at hL; cases hL; exact ⟨fun _ => hn, fun e => by rcases e with e | e <;> cases e⟩
          · rw [if_neg h1] at hL
            by_cases h2 : c = 102
            · rw [if_pos h2] at hL; cases hL; exact ⟨fun e => (by cases e), fun _ => hn⟩
            · rw [if_neg h2] at hL
              by_cases h3 : c = 80
              · rw [if_pos h3] at hL; cases hL; exact ⟨fun e => (by cases e), fun _ => hn⟩
              · rw [if_neg h3] at hL; cases hL
theorem lexN_ok : ∀ (k : Nat) (i : Nat) (b : List Nat) (l : List Tok), b.length ≤ k → lexN i b = .ok l → TokOk l := by
  intro k
  induction k with
  | zero =>
    intro i b l hk h
    have : b = [] := List.length_eq_zero_iff.1 (by omega)
    subst this
    rw [lexN_nil] at h
    cases h
    intro t ht
    cases ht
  | succ k ih =>
    intro i b l hk h
    cases b with
    | nil => rw [lexN_nil] at h; cases h; intro t ht; cases ht
    | cons c r =>
      simp only [List.length_cons] at hk
      cases hs : stepN c r with
      | blank => rw [lexN_blank hs] at h; exact ih _ _ _ (by omega) h
      | err e => rw [lexN_err hs] at h; cases h
      | tok kk n z =>
        rw [lexN_tok hs] at h
        cases hq : lexN (i + 1 + z) (r.drop z) with
        | bad a b => rw [hq] at h; cases h
        | ok l' =>
          rw [hq] at h
          cases h
          have h1 := ih _ _ _ (by rw [List.length_drop]; omega) hq
          intro t ht
          rcases List.mem_append.1 ht with e | e
          · simp only [List.mem_cons, List.not_mem_nil, or_false] at e
            subst e
            exact stepN_tok hs
          · exact h1 t e
theorem lexAll_ok {b : List Nat} {l : List Tok} (h : lexAll b = .ok l) : TokOk l := by
  unfold lexAll at h
  by_cases hb : 8000 < b.length
  · rw [if_pos hb] at h; cases h
  · rw [if_neg hb] at h
    exact lexN_ok _ _ _ _ (Nat.le_refl _) h
/-! ### shapes -/
def TmOk (t : Tr) : Prop := t.shp = true ∧ termB t.k = true
def FmOk (t : Tr) : Prop := t.shp = true ∧ termB t.k = false
theorem shpL_terms (l : List Tr) (h : ∀ t ∈ l, TmOk t) : shpL true l = true := by
  rw [shpL_all, List.all_eq_true]
  intro t ht
  obtain ⟨a, b⟩ := h t ht
  simp [a, b]
theorem shpL_forms (l : List Tr) (h : ∀ t ∈ l, FmOk t) : shpL false l = true := by
  rw [shpL_all, List.all_eq_true]
  intro t ht
  obtain ⟨a, b⟩ := h t ht
  simp [a, b]
theorem argsL_shp {T : List Tok → PR} {r0 : List Tok} (hT : ∀ r t r', r <:+ r0 → T r = .ok t r' → TmOk t ∧ r' <:+ r) (k n : Nat) : ∀ (c : Nat) (acc : List Tr) (r : List Tok) (t : Tr) (r' : List Tok), r <:+ r0 → argsL T k n c acc r = .ok t r' → ∃ ks, t = .node k n (acc ++ ks) ∧ ks.length ≤ c ∧ ∀ q ∈ ks, TmOk q := by
  intro c
  induction c with
  | zero => intro acc r t r' _ h; simp [argsL] at h
  | succ c ih =>
    intro acc r t r' hs h
    simp only [argsL] at h
    cases hr : T r with
    | bad q => rw [hr] at h; simp at h
    | ok u r1 =>
      rw [hr] at h
      obtain ⟨hu, hs1⟩ := hT r u r1 hs hr
      simp only [] at h
      by_cases h1 : stands 41 r1 = true
      · rw [if_pos h1] at h
        cases h
        exact ⟨[u], rfl, by simp, fun q hq => by simp at hq; subst hq; exact hu⟩
      · rw [if_neg h1] at h
        by_cases h2 : c = 0 ∨ stands 44 r1 = false
        · rw [if_pos h2] at h; cases h
        · rw [if_neg h2] at h
          obtain ⟨ks, e, hl, hk⟩ := ih _ _ _ _ ((List.tail_suffix r1).trans (hs1.trans hs)) h
          refine ⟨u :: ks, by rw [e, List.append_assoc]; rfl, by simp; omega, fun q hq => ?_⟩
          rcases List.mem_cons.1 hq with e | e
          · rw [e]; exact hu
          · exact hk q e
theorem argsP_shp {T : List Tok → PR} {r0 : List Tok} (hT : ∀ r t r', r <:+ r0 → T r = .ok t r' → TmOk t ∧ r' <:+ r) {k n : Nat} (hk : k = 2 ∨ k = 3) (hn : n ≤ 99) {r : List Tok} {t : Tr} {r' : List Tok} (hs : r <:+ r0) (h : argsP T k n r = .ok t r') : t.shp = true ∧ t.k = k := by
  have fin : ∀ ks : List Tr, ks.length ≤ 4 → (∀ q ∈ ks, TmOk q) → (Tr.node (k : Int) (n : Int) ks).shp = true := by
    intro ks hl hq
    have ht : kidsTerm (k : Int) = true := by unfold kidsTerm; rw [decide_eq_true_eq]; omega
    rw [shp_eq]
    simp only [Tr.k, Tr.i, Tr.ks]
    rw [ht, shpL_terms ks hq, Bool.and_true]
    unfold kindOk
    rw [if_neg (by omega), if_pos (by omega)]
    simp
    omega
  unfold argsP at h
  by_cases h1 : stands 40 r = true
  · rw [if_pos h1] at h
    obtain ⟨ks, e, hl, hq⟩ := argsL_shp hT k n _ _ _ _ _ ((List.tail_suffix r).trans hs) h
    rw [List.nil_append] at e
    subst e
    exact ⟨fin ks hl hq, rfl⟩
  · rw [if_neg h1] at h
    cases h
    exact ⟨fin [] (by simp) (by simp), rfl⟩
theorem termP_shp : ∀ (f : Nat) (r : List Tok) (t : Tr) (r' : List Tok), TokOk r → termP f r = .ok t r' → TmOk t ∧ r' <:+ r := by
  intro f
  induction f with
  | zero => intro r t r' _ h; simp [termP] at h
  | succ f ih =>
    intro r t r' hok h
    have hw := termP_within (f + 1) r
    rw [h] at hw
    refine ⟨?_, hw.1⟩
    cases r with
    | nil => simp [termP] at h
    | cons x r =>
      have hx := hok x (by simp)
      simp only [termP] at h
      by_cases h1 : x.k = 1
      · rw [if_pos h1] at h
        cases h
        have := hx.1 h1
        constructor
        · rw [shp_eq]
          simp only [Tr.k, Tr.i, Tr.ks]
          simp [kindOk, shpL]
          omega
        · rfl
      · rw [if_neg h1] at h
        by_cases h2 : x.k = 2
        · rw [if_pos h2] at h
          have hr : TokOk r := fun t ht => hok t (by simp [ht])
          obtain ⟨a, b⟩ := argsP_shp (r0 := r) (fun q t q' hq e => ih q t q' (hr.suf hq) e) (.inl rfl) (hx.2 (.inl h2)) (List.suffix_refl _) h
          exact ⟨a, by rw [b]; rfl⟩
        · rw [if_neg h2] at h; cases h
theorem shp_two (k : Int) (a b : Tr) (hk : k = 6 ∨ k = 8 ∨ k = 9) (ha : FmOk a) (hb : FmOk b) : FmOk (.node k 0 [a, b]) := by
  have hl : shpL false [a, b] = true := shpL_forms _ (by simp [ha, hb])
  have ht : kidsTerm k = false := by unfold kidsTerm; rw [decide_eq_false_iff_not]; omega
  constructor
  · rw [shp_eq]
    simp only [Tr.k, Tr.i, Tr.ks]
    rw [ht, hl, Bool.and_true]
    unfold kindOk
    rw [if_neg (by omega), if_neg (by omega), if_neg (by omega), if_neg (by omega), if_pos (by omega)]
    simp
  · show termB k = false
    unfold termB
    simp
    omega
theorem shp_quant (k n : Nat) (a : Tr) (hk : k = 7 ∨ k = 10) (hn : n ≤ 63) (ha : FmOk a) : FmOk (.node k n [a]) := by
  have hl : shpL false [a] = true := shpL_forms _ (by simp [ha])
  have ht : kidsTerm (k : Int) = false := by unfold kidsTerm; rw [decide_eq_false_iff_not]; omega
  constructor
  · rw [shp_eq]
    simp only [Tr.k, Tr.i, Tr.ks]
    rw [ht, hl, Bool.and_true]
    unfold kindOk
    rw [if_neg (by omega), if_neg (by omega), if_neg (by omega), if_neg (by omega), if_neg (by omega), if_pos (by omega)]
    simp
    omega
  · show termB (k : Int) = false
    unfold termB
    simp
    omega
theorem formP_shp : ∀ (f : Nat) (r : List Tok) (t : Tr) (r' : List Tok), TokOk r → formP f r = .ok t r' → FmOk t ∧ r' <:+ r := by
  intro f
  induction f with
  | zero => intro r t r' _ h; simp [formP] at h
  | succ f ih =>
    intro r t r' hok h
    have hw := formP_within (f + 1) r
    rw [h] at hw
    refine ⟨?_, hw.1⟩
    cases r with
    | nil => simp [formP] at h
    | cons x r =>
      have hx := hok x (by simp)
      have hr : TokOk r := fun t ht => hok t (by simp [ht])
      have quant : ∀ k : Nat, (k = 7 ∨ k = 10) → quantP (formP f) k r = .ok t r' → FmOk t := by
        intro k hk hq
        cases r with
        | nil => simp [quantP] at hq
        | cons y r1 =>
          simp only [quantP] at hq
          by_cases h1 : y.k = 1
          · rw [if_pos h1] at hq
            cases hr2 : formP f r1 with
            | bad q => rw [hr2] at hq; cases hq
            | ok a r2 =>
              rw [hr2] at hq
              cases hq
              exact shp_quant k y.n a hk ((hr y (by simp)).1 h1) (ih _ _ _ (hr.suf (List.suffix_cons y r1)) hr2).1
          · rw [if_neg h1] at hq; cases hq
      simp only [formP] at h
      by_cases h3 : x.k = 3
      · rw [if_pos h3] at h
        obtain ⟨a, b⟩ := argsP_shp (r0 := r) (fun q t q' hq e => termP_shp f q t q' (hr.suf hq) e) (.inr rfl) (hx.2 (.inr h3)) (List.suffix_refl _) h
        exact ⟨a, by rw [b]; rfl⟩
      · rw [if_neg h3] at h
        by_cases h12 : x.k = 1 ∨ x.k = 2
        · rw [if_pos h12] at h
          unfold eqP at h
          cases hr1 : termP f (x :: r) with
          | bad q => rw [hr1] at h; cases h
          | ok a r1 =>
            rw [hr1] at h
            obtain ⟨e1, s1⟩ := termP_shp f _ _ _ hok hr1
            simp only [] at h
            by_cases he : stands 61 r1 = true
            · rw [if_pos he] at h
              cases hr2 : termP f r1.tail with
              | bad q => rw [hr2] at h; cases h
              | ok b r3 =>
                rw [hr2] at h
                cases h
                obtain ⟨e2, _⟩ := termP_shp f _ _ _ (hok.suf ((List.tail_suffix r1).trans s1)) hr2
                have hl : shpL true [a, b] = true := shpL_terms _ (by simp [e1, e2])
                constructor
                · rw [shp_eq]
                  simp only [Tr.k, Tr.i, Tr.ks]
                  rw [show kidsTerm 4 = true from rfl, hl]
                  rfl
                · rfl
            · rw [if_neg he] at h; cases h
        · rw [if_neg h12] at h
          by_cases h4 : x.k = 4
          · rw [if_pos h4] at h
            by_cases e1 : x.n = 33
            · rw [if_pos e1] at h
              unfold notP at h
              cases hr1 : formP f r with
              | bad q => rw [hr1] at h; cases h
              | ok a r1 =>
                rw [hr1] at h
                cases h
                have ha := (ih _ _ _ hr hr1).1
                have hl : shpL false [a] = true := shpL_forms _ (by simp [ha])
                constructor
                · rw [shp_eq]
                  simp only [Tr.k, Tr.i, Tr.ks]
                  rw [show kidsTerm 5 = false from rfl, hl]
                  rfl
                · rfl
            · rw [if_neg e1] at h
              by_cases e2 : x.n = 64
              · rw [if_pos e2] at h; exact quant 7 (.inl rfl) h
              · rw [if_neg e2] at h
                by_cases e3 : x.n = 63
                · rw [if_pos e3] at h; exact quant 10 (.inr rfl) h
                · rw [if_neg e3] at h
                  by_cases e4 : x.n = 40
                  · rw [if_pos e4] at h
                    unfold pairP at h
                    cases hr1 : formP f r with
                    | bad q => rw [hr1] at h; cases h
                    | ok a r1 =>
                      rw [hr1] at h
                      obtain ⟨ha, s1⟩ := ih _ _ _ hr hr1
                      simp only [] at h
                      by_cases hj : jointN r1 = 0
                      · rw [if_pos hj] at h; cases h
                      · rw [if_neg hj] at h
                        cases hr2 : formP f r1.tail with
                        | bad q => rw [hr2] at h; cases h
                        | ok b r3 =>
                          rw [hr2] at h
                          obtain ⟨hb, _⟩ := ih _ _ _ (hr.suf ((List.tail_suffix r1).trans s1)) hr2
                          simp only [] at h
                          by_cases hc : stands 41 r3 = true
                          · rw [if_pos hc] at h
                            cases h
                            refine shp_two _ a b ?_ ha hb
                            unfold jointN at hj ⊢
                            split
                            · left; rfl
                            · split
                              · right; left; rfl
                              · split
                                · right; right; rfl
                                · simp_all
                          · rw [if_neg hc] at h; cases h
                  · rw [if_neg e4] at h; cases h
          · rw [if_neg h4] at h; cases h
theorem right_exc {t : Tr} (h : t.shp = true) : rightN t = excN t.sz (1 + dpL t.ks) := by
  unfold rightN excN
  rw [dp_eq t, h]
  rfl
end Go.Proofs.Ytfleomamhkeiiaa
