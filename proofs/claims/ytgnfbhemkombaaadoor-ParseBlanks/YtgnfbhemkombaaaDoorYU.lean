/- Y6, T25, Y7, one behind the other. -/
import Derived.Test.YtgnfbhemkombaaaDoorYZ
namespace Go.Proofs.YtgnfbhemkombaaaDoor
open Go.RowKit
set_option linter.unusedVariables false
set_option linter.unusedSimpArgs false
theorem whole_right {s : ByteArray} {t : Tr} (h : wholeR (formP 16100) s.size (lexAll (bytesN s)) = .ok t) : rightN t = 0 ∧ termB t.k = false := by
  obtain ⟨l, h1, h2⟩ := whole_ok h
  obtain ⟨⟨hs, hk⟩, _⟩ := formP_shp 16100 l t [] (lexAll_ok h1) h2
  refine ⟨?_, hk⟩
  rw [right_exc hs]
  rw [h1] at h
  simp only [wholeR] at h
  rw [h2] at h
  simp only [if_true] at h
  split at h
  · assumption
  · cases h
theorem whole_bad {P : List Tok → PR} {n : Nat} {b : List Nat} {c i : Nat} (h : wholeR P n (lexAll b) = .bad c i) : c ≠ 0 := by
  cases hL : lexAll b with
  | bad c' j =>
    rw [hL] at h
    simp only [wholeR] at h
    cases h
    exact lexAll_bad hL
  | ok l =>
    rw [hL] at h
    simp only [wholeR] at h
    cases hP : P l with
    | bad r => rw [hP] at h; cases h; omega
    | ok t r =>
      rw [hP] at h
      simp only [] at h
      split at h
      · split at h
        · cases h
        · cases h; assumption
      · cases h; omega
set_option maxHeartbeats 1000000 in
/-- a right formula is a formula -/
theorem risform_right (t : Tr) (A : Option Addr) (c : Nat) (w : World) (hr : rightN t = 0) (hk : termB t.k = false) (ht : IsT w w.heap.size t A c) :
    Calls Tryd.prog 16 #[.agg #[.int .i64 t.k, .int .i64 t.i, .slice A t.ks.length c]] w fun e w' => e = .returned (.bool true) ∧ Below w.heap.size w w' := by
  have T0 := Lib.hid (TY.start w t.k t.i A t.ks.length c)
  have HT := Lib.hid (fun (W : World) (h : Below w.heap.size w W) => (ht.keep h h.size : IsT W W.heap.size t A c))
  have RR := Lib.hid (fun (W : World) (h : IsT W W.heap.size t A c) => (show Calls Tryd.prog 10 #[.agg #[.int .i64 t.k, .int .i64 t.i, .slice A t.ks.length c]] W fun e w' => e = .returned (.int .i64 0) ∧ Below W.heap.size W w' from by
    have := rright_any t A c W h
    rw [hr] at this
    exact this))
  clear ht hr
  obtain ⟨y0, y1, y2⟩ := T0.out.box.cells
  go_enter Tryd.func16, Tryd.ntmps16
  go_wp2_with fail
  refine (RR.out _ (HT.out _ T0.out.below)).mono ?_
  rintro e w1 ⟨rfl, hb1⟩
  have T1 := Lib.hid (T0.out.keep hb1)
  clear hb1 y0 y1 y2 T0
  obtain ⟨y0, y1, y2⟩ := T1.out.box.cells
  go_wp2_with fail
  refine (term_any t.k t.i A t.ks.length c _).mono ?_
  rintro e w2 ⟨rfl, hb2⟩
  rw [hk]
  have T2 := Lib.hid (T1.out.keep hb2)
  clear hb2
  go_wp2_with fail
  go_ret
  exact ⟨rfl, T2.out.below⟩
set_option maxHeartbeats 4000000 in
set_option maxRecDepth 100000 in
theorem again_law (s : ByteArray) (w : World) (hs : s.size ≤ maxLen) : Calls Tryd.prog 6 #[.string s] w fun e w' => e = .returned (.bool true) ∧ Below w.heap.size w w' := by
  obtain ⟨r, hr⟩ : ∃ r, r = wholeR (formP 16100) s.size (lexAll (bytesN s)) := ⟨_, rfl⟩
  have FT := wr_fit (fun t e => formP_whole_shp (s := s) (t := t) (by rw [← hr]; exact e))
  have TA := Lib.hid (fun W => (pformula_any s W hs).mono fun e w' h => ExprPost.val (r := r) (by rw [hr]; exact h) FT)
  have RA := Lib.hid (fun W => (rformula_any s W hs).mono fun e w' h => ExprPost.val (r := r) (by rw [hr]; exact h) FT)
  have KF : (whT r).2.1 = 0 → rightN (whT r).1 = 0 ∧ termB (whT r).1.k = false := by
    intro h
    cases r with
    | ok u => exact whole_right hr.symm
    | bad c i => exact absurd h (whole_bad hr.symm)
  clear hr FT
  obtain ⟨t, ht⟩ : ∃ t, t = (whT r).1 := ⟨_, rfl⟩
  obtain ⟨cd, hcd⟩ : ∃ cd, cd = (whT r).2.1 := ⟨_, rfl⟩
  obtain ⟨pl, hpl⟩ : ∃ pl, pl = (whT r).2.2 := ⟨_, rfl⟩
  simp only [← ht, ← hcd, ← hpl] at TA RA KF
  clear ht hcd hpl
  have e1 : ((cd : Int) != (cd : Int)) = false := by simp
  have e2 : ((cd : Int) == (cd : Int)) = true := by simp
  by_cases h0 : cd = 0
  · subst h0
    obtain ⟨kr, kk⟩ := KF rfl
    obtain ⟨S, hS⟩ : ∃ S : ByteArray, S = ⟨(textT t).toArray⟩ := ⟨_, rfl⟩
    have FB := Lib.hid (fun (W : World) => (hS ▸ form_back kr kk W : Calls Tryd.prog 15 #[.string S] W (RdP W t)))
    have PR := Lib.hid (fun (A : Option Addr) (c : Nat) (W : World) (h : IsT W W.heap.size t A c) => (show Calls Tryd.prog 8 #[.agg #[.int .i64 t.k, .int .i64 t.i, .slice A t.ks.length c]] W fun e w' => e = .returned (.tuple #[.string S, .int .i64 0]) ∧ Below W.heap.size W w' from by
      have := print_any t A c W h
      unfold printL at this
      rw [if_pos kr, kr, ← hS] at this
      exact this))
    have IF := Lib.hid (fun (A : Option Addr) (c : Nat) (W : World) (h : IsT W W.heap.size t A c) => risform_right t A c W kr kk h)
    have HF := Lib.hid (fit_rightY kr)
    clear KF kr kk hS
    go_enter Tryd.func6, Tryd.ntmps6
    go_wp2_with fail
    refine (RA.out _).mono ?_
    rintro e w1 ⟨hb1, A1, c1, rfl, ht1⟩
    have BB1 := Lib.hid (fun o => hb1.trans ((al_below w1 o).mono hb1.size))
    clear hb1 ht1
    go_wp2_with fail
    refine (TA.out _).mono ?_
    rintro e w2 ⟨hb2, A2, c2, rfl, ht2⟩
    have T2 := Lib.hid (BxT.new ht2)
    have BB2 := Lib.hid (fun o => ((BB1.out _).trans (hb2.mono (BB1.out _).size)).trans ((al_below w2 o).mono (Nat.le_trans (BB1.out _).size hb2.size)))
    obtain ⟨z0, z1, z2⟩ := T2.out.box.cells
    clear hb2 ht2
    go_wp2_with fail
    refine (PR.out A2 c2 _ (by exact T2.out.tree)).mono ?_
    rintro e w3 ⟨rfl, hb3⟩
    have T3 := Lib.hid (T2.out.keep hb3)
    have BB3 := Lib.hid ((BB2.out _).trans (hb3.mono (BB2.out _).size))
    clear hb3 z0 z1 z2
    go_wp2_with fail
    refine (FB.out _).mono ?_
    rintro e w4 ⟨hb4, A4, c4, rfl, ho⟩
    have T4 := Lib.hid (BxT.new (ho.isT t (Nat.le_refl _) HF.out))
    have T3' := Lib.hid (fun o => (T3.out.keep hb4).keep (al_below w4 o))
    have BB4 := Lib.hid (fun o => (BB3.out.trans (hb4.mono BB3.out.size)).trans ((al_below w4 o).mono (Nat.le_trans BB3.out.size hb4.size)))
    clear hb4 ho
    have x0 := fun o => (T3'.out o).box.cells.1
    have x1 := fun o => (T3'.out o).box.cells.2.1
    have x2 := fun o => (T3'.out o).box.cells.2.2
    obtain ⟨z0, z1, z2⟩ := T4.out.box.cells
    go_wp2_with fail
    refine (IF.out A2 c2 _ (by exact (T3'.out _).tree)).mono ?_
    rintro e w5 ⟨rfl, hb5⟩
    have T5 := Lib.hid ((T3'.out _).keep hb5)
    have T6 := Lib.hid (T4.out.keep hb5)
    have BB5 := Lib.hid ((BB4.out _).trans (hb5.mono (BB4.out _).size))
    clear hb5 x0 x1 x2 z0 z1 z2
    obtain ⟨x0, x1, x2⟩ := T5.out.box.cells
    obtain ⟨z0, z1, z2⟩ := T6.out.box.cells
    go_wp2_with fail
    refine (like_any t t A2 A4 c2 c4 _ (by exact T5.out.tree) (by exact T6.out.tree)).mono ?_
    rintro e w6 ⟨rfl, hb6⟩
    rw [like_self]
    have BB6 := Lib.hid (BB5.out.trans (hb6.mono BB5.out.size))
    clear hb6
    go_wp2_with fail
    go_ret
    exact ⟨rfl, BB6.out⟩
  · have e3 : ((cd : Int) != 0) = true := by rw [bne_iff_ne]; omega
    go_enter Tryd.func6, Tryd.ntmps6
    go_wp2_with fail
    refine (RA.out _).mono ?_
    rintro e w1 ⟨hb1, A1, c1, rfl, ht1⟩
    have BB1 := Lib.hid (fun o => hb1.trans ((al_below w1 o).mono hb1.size))
    clear hb1 ht1
    go_wp2_with fail
    refine (TA.out _).mono ?_
    rintro e w2 ⟨hb2, A2, c2, rfl, ht2⟩
    have BB2 := Lib.hid (fun o => ((BB1.out _).trans (hb2.mono (BB1.out _).size)).trans ((al_below w2 o).mono (Nat.le_trans (BB1.out _).size hb2.size)))
    clear hb2 ht2
    go_wp2_with fail
    go_ret
    exact ⟨rfl, BB2.out _⟩
end Go.Proofs.YtgnfbhemkombaaaDoor
namespace Go.Proofs.YtgnfbhemkombaaaDoor
set_option linter.unusedVariables false
set_option linter.unusedSimpArgs false
def blanky (g : List Nat) : Prop := ∀ x ∈ g, x = 32 ∨ x = 9
theorem Lxn.blanks {g : List Nat} (h : blanky g) : Lxn g [] := by
  induction g with
  | nil => exact Lxn.nil
  | cons c r ih =>
    have hc : c = 32 ∨ c = 9 := h c (by simp)
    have h1 : Lxn [c] [] := by
      constructor
      · intro i rest _
        refine ⟨[], rfl, ?_⟩
        have e : stepN c rest = .blank := by unfold stepN; rw [if_pos hc]
        show lexN i (c :: rest) = _
        rw [lexN_blank e, LexR.pre_nil]
        rfl
      · refine NdL.cons ?_
        rcases hc with rfl | rfl <;> rfl
    have := h1.app (ih (fun x hx => h x (by simp [hx])))
    simpa using this
theorem digsN_take_app {r rest : List Nat} (h : NdL rest) : digsN (r.take (digsN r) ++ rest) = digsN r := by
  induction r with
  | nil => simpa [digsN] using h.digs
  | cons c r ih =>
    by_cases hc : isDigN c = true
    · have e : digsN (c :: r) = digsN r + 1 := by rw [digsN, if_pos hc]
      rw [e, List.take_succ_cons, List.cons_append, digsN, if_pos hc, ih]
    · have e : digsN (c :: r) = 0 := by rw [digsN, if_neg hc]
      rw [e, List.take_zero, List.nil_append]
      exact h.digs
theorem letter_is {c k m : Nat} (h : letterN c = some (k, m)) : c = 120 ∨ c = 102 ∨ c = 80 := by
  unfold letterN at h
  by_cases h1 : c = 120
  · exact .inl h1
  · rw [if_neg h1] at h
    by_cases h2 : c = 102
    · exact .inr (.inl h2)
    · rw [if_neg h2] at h
      by_cases h3 : c = 80
      · exact .inr (.inr h3)
      · rw [if_neg h3] at h; cases h
theorem sign_nodig {c : Nat} (h : isSignT c = true) : isDigN c = false := by
  unfold isSignT at h
  simp only [Bool.or_eq_true, beq_iff_eq] at h
  rcases h with (((((((((rfl | rfl) | rfl) | rfl) | rfl) | rfl) | rfl) | rfl) | rfl) | rfl) <;> rfl
/-- a token's own characters -/
theorem tok_word {c k n z : Nat} {r : List Nat} (h : stepN c r = .tok k n z) : z ≤ r.length ∧ Lxn (c :: r.take z) [(k, n)] ∧ ∀ x ∈ c :: r.take z, x ≠ 32 := by
  unfold stepN at h
  by_cases hb : c = 32 ∨ c = 9
  · rw [if_pos hb] at h; cases h
  · rw [if_neg hb] at h
    by_cases hS : isSignT c = true
    · rw [if_pos hS] at h
      cases h
      refine ⟨Nat.zero_le _, ?_, ?_⟩
      · rw [List.take_zero]; exact Lxn.sign hS hb (sign_nodig hS)
      · intro x hx
        simp at hx
        subst hx
        omega
    · rw [if_neg hS] at h
      cases hL : letterN c with
      | none => rw [hL] at h; cases h
      | some km =>
        obtain ⟨k', m⟩ := km
        rw [hL] at h
        simp only [] at h
        cases hN : numN (r.take (digsN r)) m with
        | none => rw [hN] at h; cases h
        | some v =>
          rw [hN] at h
          cases h
          have hd := digsN_le r
          have hlen : (r.take (digsN r)).length = digsN r := by simp; omega
          refine ⟨hd, ⟨?_, ?_⟩, ?_⟩
          · intro i rest hr
            refine ⟨[⟨k, n, i⟩], rfl, ?_⟩
            have e : stepN c (r.take (digsN r) ++ rest) = .tok k n (digsN r) := by
              unfold stepN
              rw [if_neg hb, if_neg hS, hL]
              simp only []
              rw [digsN_take_app hr, List.take_left' hlen, hN]
            show lexN i (c :: (r.take (digsN r) ++ rest)) = _
            rw [lexN_tok e, List.drop_left' hlen, List.length_cons, hlen, show i + (digsN r + 1) = i + 1 + digsN r by omega]
          · refine NdL.cons ?_
            rcases letter_is hL with rfl | rfl | rfl <;> rfl
          · intro x hx
            rcases List.mem_cons.1 hx with rfl | hx
            · omega
            · obtain ⟨j, hj, rfl⟩ := List.getElem_of_mem hx
              rw [List.getElem_take]
              have := digsN_dig r j (by omega) (by omega)
              unfold isDigN at this
              simp only [Bool.and_eq_true, decide_eq_true_eq] at this
              omega
/-- where the token behind stands, or the end -/
def endP (l : List Tok) (j L : Nat) : Nat := (l[j]?.map Tok.p).getD L
theorem stepN_isblank {c : Nat} {r : List Nat} (h : stepN c r = .blank) : c = 32 ∨ c = 9 := by
  unfold stepN at h
  by_cases hb : c = 32 ∨ c = 9
  · exact hb
  · rw [if_neg hb] at h
    by_cases hS : isSignT c = true
    · rw [if_pos hS] at h; cases h
    · rw [if_neg hS] at h
      cases hL : letterN c with
      | none => rw [hL] at h; cases h
      | some km =>
        rw [hL] at h
        simp only [] at h
        cases hN : numN (r.take (digsN r)) km.2 with
        | none => rw [hN] at h; cases h
        | some v => rw [hN] at h; cases h
theorem pre_ok {a : List Tok} {R : LexR} {l : List Tok} (h : R.pre a = .ok l) : ∃ l', R = .ok l' ∧ l = a ++ l' := by
  cases R with
  | ok l' => cases h; exact ⟨l', rfl, rfl⟩
  | bad c i => cases h
theorem head_blank : ∀ (n : Nat) (b : List Nat) (i : Nat) (l : List Tok), b.length ≤ n → lexN i b = .ok l → i ≤ endP l 0 (i + b.length) ∧ endP l 0 (i + b.length) ≤ i + b.length ∧ blanky (b.take (endP l 0 (i + b.length) - i)) := by
  intro n
  induction n with
  | zero =>
    intro b i l hb h
    obtain rfl : b = [] := List.eq_nil_of_length_eq_zero (by omega)
    rw [lexN_nil] at h
    cases h
    simp [endP, blanky]
  | succ n ih =>
    intro b i l hb h
    cases b with
    | nil => rw [lexN_nil] at h; cases h; simp [endP, blanky]
    | cons c r =>
      cases hS : stepN c r with
      | blank =>
        rw [lexN_blank hS] at h
        obtain ⟨h1, h2, h3⟩ := ih r (i + 1) l (by simp at hb; omega) h
        have e : i + (c :: r).length = i + 1 + r.length := by simp; omega
        rw [e]
        refine ⟨by omega, h2, ?_⟩
        rw [show endP l 0 (i + 1 + r.length) - i = (endP l 0 (i + 1 + r.length) - (i + 1)) + 1 by omega, List.take_succ_cons]
        intro x hx
        rcases List.mem_cons.1 hx with rfl | hx
        · exact stepN_isblank hS
        · exact h3 x hx
      | err e => rw [lexN_err hS] at h; cases h
      | tok k m z =>
        rw [lexN_tok hS] at h
        obtain ⟨l', _, rfl⟩ := pre_ok h
        have e : endP ([⟨k, m, i⟩] ++ l') 0 (i + (c :: r).length) = i := rfl
        rw [e]
        refine ⟨Nat.le_refl _, by omega, ?_⟩
        simp [blanky]
theorem cut_lex : ∀ (n : Nat) (b : List Nat) (i : Nat) (l : List Tok), b.length ≤ n → lexN i b = .ok l → ∀ (j : Nat) (hj : j < l.length), i ≤ l[j].p ∧ l[j].p < endP l (j + 1) (i + b.length) ∧ endP l (j + 1) (i + b.length) ≤ i + b.length ∧ ∃ w g, (b.drop (l[j].p - i)).take (endP l (j + 1) (i + b.length) - l[j].p) = w ++ g ∧ blanky g ∧ w ≠ [] ∧ Lxn w [kn l[j]] ∧ ∀ x ∈ w, x ≠ 32 := by
  intro n
  induction n with
  | zero =>
    intro b i l hb h
    obtain rfl : b = [] := List.eq_nil_of_length_eq_zero (by omega)
    rw [lexN_nil] at h
    cases h
    intro j hj
    simp at hj
  | succ n ih =>
    intro b i l hb h j hj
    cases b with
    | nil => rw [lexN_nil] at h; cases h; simp at hj
    | cons c r =>
      have hr : r.length ≤ n := by simp at hb; omega
      cases hS : stepN c r with
      | blank =>
        rw [lexN_blank hS] at h
        obtain ⟨h1, h2, h3, w, g, h4, h5⟩ := ih r (i + 1) l hr h j hj
        have e : i + (c :: r).length = i + 1 + r.length := by simp; omega
        rw [e]
        refine ⟨by omega, h2, h3, w, g, ?_, h5⟩
        rw [show l[j].p - i = (l[j].p - (i + 1)) + 1 by omega, List.drop_succ_cons]
        exact h4
      | err e => rw [lexN_err hS] at h; cases h
      | tok k m z =>
        rw [lexN_tok hS] at h
        obtain ⟨l', h', rfl⟩ := pre_ok h
        obtain ⟨hz, hw, hx⟩ := tok_word hS
        have e : i + (c :: r).length = i + 1 + z + (r.drop z).length := by simp; omega
        rw [e]
        cases j with
        | zero =>
          obtain ⟨h1, h2, h3⟩ := head_blank n (r.drop z) (i + 1 + z) l' (by simp; omega) h'
          have e2 : endP ([⟨k, m, i⟩] ++ l') (0 + 1) (i + 1 + z + (r.drop z).length) = endP l' 0 (i + 1 + z + (r.drop z).length) := rfl
          have e3 : ([⟨k, m, i⟩] ++ l' : List Tok)[0].p = i := rfl
          rw [e2, e3]
          obtain ⟨q, hq⟩ : ∃ q, q = endP l' 0 (i + 1 + z + (r.drop z).length) := ⟨_, rfl⟩
          rw [← hq] at h1 h2 h3 ⊢
          refine ⟨Nat.le_refl _, by omega, h2, c :: r.take z, (r.drop z).take (q - (i + 1 + z)), ?_, h3, by simp, hw, hx⟩
          rw [Nat.sub_self, List.drop_zero, show q - i = (q - (i + 1)) + 1 by omega, List.take_succ_cons, List.cons_append]
          congr 1
          rw [show q - (i + 1) = z + (q - (i + 1 + z)) by omega, List.take_add]
        | succ j =>
          have hj' : j < l'.length := by simp at hj; omega
          obtain ⟨h1, h2, h3, w, g, h4, h5⟩ := ih (r.drop z) (i + 1 + z) l' (by simp; omega) h' j hj'
          have e2 : endP ([⟨k, m, i⟩] ++ l') (j + 1 + 1) (i + 1 + z + (r.drop z).length) = endP l' (j + 1) (i + 1 + z + (r.drop z).length) := rfl
          have e3 : ([⟨k, m, i⟩] ++ l' : List Tok)[j + 1] = l'[j] := rfl
          rw [e2, e3]
          refine ⟨by omega, h2, h3, w, g, ?_, h5⟩
          rw [List.drop_drop] at h4
          rw [show l'[j].p - i = (z + (l'[j].p - (i + 1 + z))) + 1 by omega, List.drop_succ_cons]
          exact h4
theorem toks_ne (t : Tr) : toksT t ≠ [] := by
  obtain ⟨k, i, ks⟩ := t
  unfold toksT nodeK9
  repeat' split
  all_goals simp [betwK]
end Go.Proofs.YtgnfbhemkombaaaDoor
namespace Go.Proofs.YtgnfbhemkombaaaDoor
open Go.RowKit
set_option linter.unusedVariables false
set_option linter.unusedSimpArgs false
theorem form_of {t : Tr} {S : ByteArray} (hS : S.size ≤ maxLen) (hw : wholeR (readerP t 16100) S.size (lexAll (bytesN S)) = .ok t) (hk : termB t.k = false) (w : World) : Calls Tryd.prog 15 #[.string S] w (RdP w t) := by
  have h := pformula_any S w hS
  unfold readerP at hw
  rw [hk, if_neg (by simp)] at hw
  rw [hw] at h
  exact h
theorem term_of {t : Tr} {S : ByteArray} (hS : S.size ≤ maxLen) (hw : wholeR (readerP t 16100) S.size (lexAll (bytesN S)) = .ok t) (hk : termB t.k = true) (w : World) : Calls Tryd.prog 27 #[.string S] w (RdP w t) := by
  have h := ptermf_any S w hS
  unfold readerP at hw
  rw [hk, if_pos rfl] at hw
  rw [hw] at h
  exact h
/-- a text that is cut into the tree's tokens is read as the tree -/
theorem whole_toks {t : Tr} (hr : rightN t = 0) {S : ByteArray} (hL : Lxn (bytesN S) (toksT t)) (hz : S.size ≤ 8000) : wholeR (readerP t 16100) S.size (lexAll (bytesN S)) = .ok t := by
  obtain ⟨hs, _, hd⟩ := right_shpY hr
  obtain ⟨l, h1, h2⟩ := hL.1 0 [] NdL.nil
  rw [List.append_nil, lexN_nil] at h2
  have e : lexAll (bytesN S) = .ok l := by
    unfold lexAll
    rw [if_neg (by rw [bytesN_len]; omega), h2]
    simp [LexR.pre]
  have h3 := tree_read hs hd l [] h1 rfl
  rw [List.append_nil] at h3
  rw [e]
  simp only [wholeR]
  rw [h3]
  have hE : excN t.sz (1 + dpL t.ks) = 0 := (right_exc hs).symm.trans hr
  simp only [hE, if_true]
theorem bytesN_app (a b : ByteArray) : bytesN (a ++ b) = bytesN a ++ bytesN b := by simp [bytesN]
/-- two texts, one behind the other -/
theorem addB (a b : ByteArray) (h : a.size + b.size ≤ 1000000) : ∃ c : ByteArray, bytesN c = bytesN a ++ bytesN b ∧ ∀ W : World, (Op.stringOp .add a b).run Tryd.prog W = .ok (.string c) W :=
  ⟨a ++ b, bytesN_app a b, fun W => run_string_add_sum W a b (by omega)⟩
/-- what the shell tells of a slice of integers that came in -/
def IsRow (k : IntKind) (w : World) (a : Option Addr) (len cap : Nat) (zs : List Int) : Prop :=
  (a = none ∧ len = 0 ∧ cap = 0 ∧ zs = []) ∨ ∃ x, a = some x ∧ len ≤ cap ∧ cap ≤ maxLen ∧ zs.length = cap ∧ (∀ i, i < zs.length → w.cell? (x.add i) = some (.int k (zs.getD i 0))) ∧ ∀ n ∈ zs, (Lit.int k n).wf = true
/-- integers that came in -/
def RdM (w : World) (A : Option Addr) (n : Nat) : Prop := ∀ j, j < n → ∃ ad z, A = some ad ∧ (ad.add j).block < w.heap.size ∧ w.cell? (ad.add j) = some (.int .i64 z)
theorem rdM_of {a : Option Addr} {l c : Nat} {zs : List Int} {w : World} (h : IsRow .i64 w a l c zs) : RdM w a l ∧ l ≤ maxLen := by
  rcases h with ⟨rfl, rfl, rfl, rfl⟩ | ⟨x, rfl, hl, hm, hz, hc, _⟩
  · exact ⟨fun j hj => by omega, by unfold maxLen; omega⟩
  · refine ⟨fun j hj => ?_, by omega⟩
    have h1 := hc j (by omega)
    exact ⟨x, _, rfl, block_lt_of_cell h1, h1⟩
/-- what blanks are put in -/
theorem blankX (q : Nat) (hq : q ≤ 4) : blanky (bytesN ((⟨#[32, 32, 32, 9]⟩ : ByteArray).extract 0 q)) ∧ ((⟨#[32, 32, 32, 9]⟩ : ByteArray).extract 0 q).size ≤ 4 := by
  refine ⟨?_, by simp [ByteArray.size_extract]; omega⟩
  rw [bytesN_sub _ _ _ (by exact hq)]
  intro x hx
  have := List.mem_of_mem_drop (List.mem_of_mem_take hx)
  have e : bytesN (⟨#[32, 32, 32, 9]⟩ : ByteArray) = [32, 32, 32, 9] := rfl
  rw [e] at this
  simp at this
  omega
theorem endP_lt {l : List Tok} {j L : Nat} (h : j < l.length) : endP l j L = l[j].p := by unfold endP; rw [List.getElem?_eq_getElem h]; rfl
theorem endP_ge {l : List Tok} {j L : Nat} (h : ¬ j < l.length) : endP l j L = L := by unfold endP; rw [List.getElem?_eq_none (by omega)]; rfl
/-- what the two texts are, behind k tokens -/
structure BI (l : List Tok) (L k : Nat) (T D : ByteArray) : Prop where
  le : k ≤ l.length
  thin : Lxn (bytesN T) ((l.take k).map kn)
  wide : Lxn (bytesN D) ((l.take k).map kn)
  ts : T.size ≤ endP l k L
  kp : k ≤ endP l k L
  el : endP l k L ≤ L
  ds : D.size ≤ T.size + 4 * k
theorem BI.step {l : List Tok} {L k m : Nat} {T D T' D' B : ByteArray} {wl gl X : List Nat} (h : BI l L k T D) (hlt : k < l.length) (h1 : l[k].p < endP l (k + 1) L) (h2 : endP l (k + 1) L ≤ L) (hlen : (wl ++ gl).length ≤ endP l (k + 1) L - l[k].p) (hg : blanky gl) (hx : Lxn wl [kn l[k]]) (hB : bytesN B = (wl ++ gl).take m) (hm : wl.length ≤ m) (hT : bytesN T' = bytesN T ++ bytesN B) (hD : bytesN D' = bytesN D ++ bytesN B ++ X) (hX : blanky X) (hX4 : X.length ≤ 4) : BI l L (k + 1) T' D' := by
  have hP : endP l k L = l[k].p := endP_lt hlt
  have e : bytesN B = wl ++ gl.take (m - wl.length) := by rw [hB, List.take_append, List.take_of_length_le hm]
  have hLB : Lxn (bytesN B) [kn l[k]] := by
    rw [e]
    have := hx.app (Lxn.blanks (g := gl.take (m - wl.length)) (fun x hx => hg x (List.mem_of_mem_take hx)))
    simpa using this
  have et : (l.take (k + 1)).map kn = (l.take k).map kn ++ [kn l[k]] := by rw [List.take_succ_eq_append_getElem hlt, List.map_append]; rfl
  have hBl : B.size ≤ (wl ++ gl).length := by rw [← bytesN_len, hB]; simp; omega
  have hTl : T'.size = T.size + B.size := by rw [← bytesN_len, hT, List.length_append, bytesN_len, bytesN_len]
  have hDl : D'.size = D.size + B.size + X.length := by rw [← bytesN_len, hD, List.length_append, List.length_append, bytesN_len, bytesN_len]
  obtain ⟨g1, g2, g3, g4, g5, g6, g7⟩ := h
  refine ⟨hlt, ?_, ?_, by omega, by omega, h2, by omega⟩
  · rw [hT, et]; exact g2.app hLB
  · rw [hD, et]
    have := (g3.app hLB).app (Lxn.blanks hX)
    simpa using this
theorem trim_more {B : ByteArray} {wl gl : List Nat} {m : Nat} (hB : bytesN B = (wl ++ gl).take m) (hw : wl.length ≤ m) (hm : m ≤ (wl ++ gl).length) (hne : wl ≠ []) (hx : ∀ x ∈ wl, x ≠ 32) :
    B.size = m ∧ 0 < m ∧ ∀ (h : B.size - 1 < B.size), (B[B.size - 1]).toNat = 32 → wl.length ≤ m - 1 ∧ 1 < m ∧ bytesN (B.extract 0 (B.size - 1)) = (wl ++ gl).take (m - 1) := by
  have hl : B.size = m := by rw [← bytesN_len, hB, List.length_take]; omega
  have h0 : 0 < wl.length := by
    cases wl with
    | nil => exact absurd rfl hne
    | cons a b => simp
  refine ⟨hl, by omega, fun h h32 => ?_⟩
  have hlt : wl.length < m := by
    refine Nat.lt_of_le_of_ne hw fun e => ?_
    have e2 : bytesN B = wl := by rw [hB, List.take_left' e]
    have hg := bytesN_get B (B.size - 1) h
    have hmem : (bytesN B)[B.size - 1]'(by rw [bytesN_len]; exact h) ∈ bytesN B := List.getElem_mem _
    rw [hg, h32, e2] at hmem
    exact hx 32 hmem rfl
  refine ⟨by omega, by omega, ?_⟩
  rw [bytesN_sub _ _ _ (by omega), hB, List.drop_zero, Nat.sub_zero, List.take_take, hl]
  congr 1
  omega
theorem sliceS (s : ByteArray) (p q : Nat) (h1 : p ≤ q) (h2 : q ≤ s.size) (W : World) : (Instr.slice 9 (.string s) (some (.int .i64 (p : Int))) (some (.int .i64 (q : Int))) none).run Tryd.prog W = .ok (.string (s.extract p q)) W := by
  have x1 : (0 : Int) ≤ (p : Int) := by omega
  have x2 : (p : Int) ≤ (q : Int) := by omega
  have x3 : (q : Int) ≤ (s.size : Int) := by omega
  simp [go_sem, x1, x2, x3, h1, h2]
theorem sliceS0 (s : ByteArray) (q : Nat) (h2 : q ≤ s.size) (W : World) : (Instr.slice 9 (.string s) none (some (.int .i64 (q : Int))) none).run Tryd.prog W = .ok (.string (s.extract 0 q)) W := by
  have x3 : (q : Int) ≤ (s.size : Int) := by omega
  simp [go_sem, x3, h2]
theorem indexS (s : ByteArray) (q : Nat) (h : q < s.size) (W : World) : (Instr.index 9 (.string s) (.int .i64 (q : Int))).run Tryd.prog W = .ok (.int .u8 ((s[q].toNat : Nat) : Int)) W := by
  have x3 : (q : Int) < (s.size : Int) := by omega
  simp [go_sem, x3, h]
def strOf : Value → ByteArray
  | .string s => s
  | _ => ⟨#[]⟩
set_option maxHeartbeats 4000000 in
set_option maxRecDepth 100000 in
theorem readsG_any (t : Tr) (A : Option Addr) (c : Nat) (S : ByteArray) (w : World) (hS : S.size ≤ maxLen) (hw : wholeR (readerP t 16100) S.size (lexAll (bytesN S)) = .ok t) (hr : rightN t = 0) (ht : IsT w w.heap.size t A c) :
    Calls Tryd.prog 11 #[.string S, .agg #[.int .i64 t.k, .int .i64 t.i, .slice A t.ks.length c]] w fun e w' => e = .returned (.bool true) ∧ Below w.heap.size w w' := by
  have S0 := Lib.hid (RY.start w t A c)
  have HT := Lib.hid ht
  have HF := Lib.hid (fit_rightY hr)
  have FB := Lib.hid (fun (hk : termB t.k = false) (W : World) => form_of hS hw hk W)
  have TB := Lib.hid (fun (hk : termB t.k = true) (W : World) => term_of hS hw hk W)
  clear ht hr hS hw
  obtain ⟨x0, x1, x2⟩ := S0.out.ty.box.cells
  go_enter Tryd.func11, Tryd.ntmps11
  go_wp2_with fail
  refine (term_any t.k t.i A t.ks.length c _).mono ?_
  rintro e w1 ⟨rfl, hb1⟩
  have S1 := Lib.hid (S0.out.keep hb1)
  clear hb1 x0 x1 x2 S0
  obtain ⟨n0, n1, n2⟩ := S1.out.bx.cells
  have f0 := S1.out.bx.frozen 0
  cases hk : termB t.k with
  | true =>
    have TQ := Lib.hid (fun W => TB.out hk W)
    clear hk
    go_wp2_with fail
    refine (TQ.out _).mono ?_
    rintro e w3 ⟨hb3, A3, c3, rfl, ho⟩
    have S3 := Lib.hid (S1.out.put hb3 ho HF.out)
    have N3 := Lib.hid (S1.out.keep hb3)
    clear hb3 ho n0 n1 n2 f0 S1
    obtain ⟨n0, n1, n2⟩ := N3.out.bx.cells
    have f0 := N3.out.bx.frozen 0
    have f1 := N3.out.bx.frozen 1
    have f2 := N3.out.bx.frozen 2
    obtain ⟨m0, m1, m2⟩ := S3.out.1.bx.cells
    obtain ⟨y0, y1, y2⟩ := S3.out.1.ty.box.cells
    have KT := Lib.hid (HT.out.keep S3.out.1.ty.below S3.out.1.ty.below.size)
    go_wp2_with fail
    refine (like_any t t A3 A c3 c _ (by exact S3.out.2) (by exact KT.out)).mono ?_
    rintro e w4 ⟨rfl, hb4⟩
    rw [like_self]
    have B4 := Lib.hid (S3.out.1.ty.below.trans (hb4.mono S3.out.1.ty.below.size))
    clear hb4
    go_wp2_with fail
    go_ret
    exact ⟨rfl, B4.out⟩
  | false =>
    have FQ := Lib.hid (fun W => FB.out hk W)
    clear hk
    go_wp2_with fail
    refine (FQ.out _).mono ?_
    rintro e w3 ⟨hb3, A3, c3, rfl, ho⟩
    have S3 := Lib.hid (S1.out.put hb3 ho HF.out)
    have N3 := Lib.hid (S1.out.keep hb3)
    clear hb3 ho n0 n1 n2 f0 S1
    obtain ⟨n0, n1, n2⟩ := N3.out.bx.cells
    have f0 := N3.out.bx.frozen 0
    have f1 := N3.out.bx.frozen 1
    have f2 := N3.out.bx.frozen 2
    obtain ⟨m0, m1, m2⟩ := S3.out.1.bx.cells
    obtain ⟨y0, y1, y2⟩ := S3.out.1.ty.box.cells
    have KT := Lib.hid (HT.out.keep S3.out.1.ty.below S3.out.1.ty.below.size)
    go_wp2_with fail
    refine (like_any t t A3 A c3 c _ (by exact S3.out.2) (by exact KT.out)).mono ?_
    rintro e w4 ⟨rfl, hb4⟩
    rw [like_self]
    have B4 := Lib.hid (S3.out.1.ty.below.trans (hb4.mono S3.out.1.ty.below.size))
    clear hb4
    go_wp2_with fail
    go_ret
    exact ⟨rfl, B4.out⟩
set_option maxHeartbeats 8000000 in
set_option maxRecDepth 100000 in
theorem blanks_right (t : Tr) (A : Option Addr) (c : Nat) (M : Option Addr) (n cap : Nat) (w : World) (hr : rightN t = 0) (ht : IsT w w.heap.size t A c) (hn : n ≤ maxLen) (hM : RdM w M n) :
    Calls Tryd.prog 5 #[.agg #[.int .i64 t.k, .int .i64 t.i, .slice A t.ks.length c], .slice M n cap] w fun e w' => e = .returned (.bool true) ∧ Below w.heap.size w w' := by
  have T0 := Lib.hid (TY.start w t.k t.i A t.ks.length c)
  obtain ⟨l, hl1, hl2⟩ : ∃ l : List Tok, l.map kn = toksT t ∧ lexAll (bytesN ⟨(textT t).toArray⟩) = .ok l := by
    obtain ⟨hs, hz, hd⟩ := right_shpY hr
    obtain ⟨l, h1, h2⟩ := lex_text hs hz
    exact ⟨l, h1, by rw [bytesN_nb]; exact h2⟩
  have hpr : printL t = textT t := by unfold printL; rw [if_pos hr]
  obtain ⟨s, hs⟩ : ∃ s : ByteArray, s = ⟨(textT t).toArray⟩ := ⟨_, rfl⟩
  have hs8 : s.size ≤ 8000 := by
    by_cases h : 8000 < (bytesN ⟨(textT t).toArray⟩).length
    · unfold lexAll at hl2
      rw [if_pos h] at hl2
      cases hl2
    · rw [← hs, bytesN_len] at h
      omega
  rw [← hs] at hl2
  have hlx : lexN 0 (bytesN s) = .ok l := by
    unfold lexAll at hl2
    rw [if_neg (by rw [bytesN_len]; omega)] at hl2
    exact hl2
  have PR := Lib.hid (fun (W : World) (h : Below w.heap.size w W) => (show Calls Tryd.prog 8 #[.agg #[.int .i64 t.k, .int .i64 t.i, .slice A t.ks.length c]] W fun e w' => e = .returned (.tuple #[.string s, .int .i64 0]) ∧ Below W.heap.size W w' from by
    have := print_any t A c W (ht.keep h h.size)
    rw [hpr, hr, ← hs] at this
    exact this))
  have RR := Lib.hid (fun (W : World) (h : Below w.heap.size w W) => (show Calls Tryd.prog 10 #[.agg #[.int .i64 t.k, .int .i64 t.i, .slice A t.ks.length c]] W fun e w' => e = .returned (.int .i64 0) ∧ Below W.heap.size W w' from by
    have := rright_any t A c W (ht.keep h h.size)
    rw [hr] at this
    exact this))
  have TK := Lib.hid (fun (W : World) => (show Calls Tryd.prog 13 #[.string s] W (ToksPost W (.ok l)) from by
    have := tokens_any s W (by unfold maxLen; omega)
    rw [hl2] at this
    exact this))
  have RD := Lib.hid (fun (S : ByteArray) (hL : Lxn (bytesN S) (l.map kn)) (hz : S.size ≤ 8000) (W : World) (h : Below w.heap.size w W) =>
    readsG_any t A c S W (by unfold maxLen; omega) (whole_toks hr (by rw [← hl1]; exact hL) hz) hr (ht.keep h h.size))
  have CUT := Lib.hid (fun (j : Nat) (hj : j < l.length) => (show l[j].p < endP l (j + 1) s.size ∧ endP l (j + 1) s.size ≤ s.size ∧ ∃ w g, ((bytesN s).drop l[j].p).take (endP l (j + 1) s.size - l[j].p) = w ++ g ∧ blanky g ∧ w ≠ [] ∧ Lxn w [kn l[j]] ∧ ∀ x ∈ w, x ≠ 32 from by
    have := cut_lex _ (bytesN s) 0 l (Nat.le_refl _) hlx j hj
    rw [bytesN_len, Nat.zero_add, Nat.sub_zero] at this
    exact this.2))
  have hl0 : l.length ≠ 0 := fun h => by
    have : l = [] := List.eq_nil_of_length_eq_zero h
    rw [this] at hl1
    exact toks_ne t hl1.symm
  have hlb : ((l.length : Int) == 0) = false := by rw [beq_eq_false_iff_ne]; omega
  have HM := Lib.hid hM
  clear hl1 hl2 hpr hs hlx ht hr hM
  obtain ⟨x0, x1, x2⟩ := T0.out.box.cells
  go_enter Tryd.func5, Tryd.ntmps5
  go_wp2_with fail
  refine (PR.out _ T0.out.below).mono ?_
  rintro e w1 ⟨rfl, hb1⟩
  have T1 := Lib.hid (T0.out.keep hb1)
  clear hb1 x0 x1 x2 T0
  obtain ⟨x0, x1, x2⟩ := T1.out.box.cells
  go_wp2_with fail
  refine (RR.out _ T1.out.below).mono ?_
  rintro e w2 ⟨rfl, hb2⟩
  have T2 := Lib.hid (T1.out.keep hb2)
  clear hb2 x0 x1 x2 T1
  go_wp2_with fail
  refine (TK.out _).mono ?_
  rintro e w3 ⟨hb3, v3, rfl, ho3⟩
  obtain ⟨G, gc, rfl, i3⟩ := tok_rows ho3
  have T3 := Lib.hid (T2.out.keep hb3)
  have I3 := Lib.hid (show IsToks w3 G gc l from i3)
  have LN := Lib.hid (own_len ho3)
  clear hb3 ho3 i3 T2
  go_wp2_with fail
  go_loopw [10, 11, 42] (fun a b i wr => ∃ (k : Nat) (T D : ByteArray), i = .int .i64 (k : Int) ∧ a = .string T ∧ b = .string D ∧ BI l s.size k T D ∧ Below w3.heap.size w3 wr) (fun _ _ i _ => l.length - (intOf i).toNat)
  case atStart =>
    refine ⟨0, ⟨#[]⟩, ⟨#[]⟩, rfl, rfl, rfl, ⟨Nat.zero_le _, Lxn.nil, Lxn.nil, Nat.zero_le _, Nat.zero_le _, ?_, by show 0 ≤ _; omega⟩, Below.refl _ _⟩
    rw [endP_lt (by omega : 0 < l.length)]
    have := CUT.out 0 (by omega)
    omega
  case round =>
    obtain ⟨wo, rfl⟩ : ∃ wo : World, wo = wr := ⟨_, rfl⟩
    obtain ⟨k, T, D, rfl, rfl, rfl, hI, hbw⟩ := hrel
    have HI := Lib.hid hI
    have hk := hI.le
    have hTs := hI.ts
    have hel := hI.el
    have hds := hI.ds
    have hkp := hI.kp
    clear hI
    have LN' := LN.out
    by_cases hlt : k < l.length
    · obtain ⟨g, rfl, hc, hg, p0, p1, p2⟩ := I3.out k hlt
      obtain ⟨hpE, hEs, wl, gl, hcut, hgl, hwl, hxl, hx32⟩ := CUT.out k hlt
      have NX := Lib.hid (fun (m : Nat) (B T' D' : ByteArray) (X : List Nat) hB hm hT hD hX hX4 => HI.out.step (m := m) (B := B) (T' := T') (D' := D') (X := X) hlt hpE hEs (by rw [← hcut]; simp; omega) hgl hxl hB hm hT hD hX hX4)
      have WN := Lib.hid (And.intro hwl hx32)
      have ho : (g : Nat) < w3.heap.size := hg
      obtain ⟨tk, htk⟩ : ∃ tk, tk = l[k].k := ⟨_, rfl⟩
      obtain ⟨tn, htn⟩ : ∃ tn, tn = l[k].n := ⟨_, rfl⟩
      obtain ⟨p, hp⟩ : ∃ p, p = l[k].p := ⟨_, rfl⟩
      rw [← htk] at p0
      rw [← htn] at p1
      rw [← hp] at p2 hpE hcut
      have d0 := (hbw.cell (p := ⟨g, k * 3, none⟩) hg).trans p0
      have d1 := (hbw.cell (p := ⟨g, k * 3 + 1, none⟩) hg).trans p1
      have d2 := (hbw.cell (p := ⟨g, k * 3 + 2, none⟩) hg).trans p2
      clear p0 p1 p2 htk htn hxl hgl hwl hx32
      by_cases h2 : k + 1 < l.length
      · obtain ⟨g', hgg, _, _, _, _, p5⟩ := I3.out (k + 1) h2
        cases hgg
        have hE : endP l (k + 1) s.size = l[k + 1].p := endP_lt h2
        rw [hE] at hcut hpE hEs
        obtain ⟨E, hE'⟩ : ∃ E, E = l[k + 1].p := ⟨_, rfl⟩
        rw [← hE'] at p5 hcut hpE hEs
        have d5 := fun o => ((hbw.trans ((al_below wo o).mono hbw.size)).cell (p := ⟨g, (k + 1) * 3 + 2, none⟩) hg).trans p5
        have hsg : bytesN (s.extract p E) = wl ++ gl := by rw [bytesN_sub _ _ _ hEs]; exact hcut
        have SG := Lib.hid hsg
        clear hE hE' hp hcut p5 hsg
        have x1 : ¬ ((p : Int) < 0) := by omega
        have x2 : ¬ ((s.size : Int) < (E : Int)) := by omega
        have x3 : ¬ ((E : Int) ≤ (p : Int)) := by omega
        have x4 : (k : Int) + 1 < (l.length : Int) := by omega
        have x5 : ((k : Int) + 1).toNat = k + 1 := by omega
        have x6 : IntKind.i64.wrap ((k : Int) + 1) = (k : Int) + 1 := IntWalk.i64_in _ (by unfold maxLen at LN'; omega)
        have sl := sliceS s p E (by omega) hEs
        obtain ⟨SS, hSS⟩ : ∃ SS, SS = s.extract p E := ⟨_, rfl⟩
        rw [← hSS] at SG sl
        have hlen : (wl ++ gl).length ≤ 8000 := by rw [← SG.out, bytesN_len, hSS, ByteArray.size_extract]; omega
        have hS8 : SS.size ≤ 8000 := by rw [hSS, ByteArray.size_extract]; omega
        clear hSS
        go_wp2_with fail
        go_loopw [15] (fun v wr => ∃ (m : Nat) (B : ByteArray), v = .string B ∧ bytesN B = (wl ++ gl).take m ∧ wl.length ≤ m ∧ m ≤ (wl ++ gl).length ∧ Below wo.heap.size wo wr) (fun v _ => (strOf v).size)
        case atStart => exact ⟨_, SS, rfl, by rw [SG.out, List.take_length], by rw [List.length_append]; omega, Nat.le_refl _, (al_below wo _)⟩
        case round =>
          obtain ⟨m, B, rfl, hB, hwm, hmg, hbo⟩ := hrel
          obtain ⟨rfl, hm0, hmore⟩ := trim_more hB hwm hmg WN.out.1 WN.out.2
          have hBl : B.size - 1 < B.size := by omega
          have q0 : IntKind.i64.wrap ((B.size : Int) - 1) = ((B.size - 1 : Nat) : Int) := by
            rw [IntWalk.i64_in _ (by omega)]
            omega
          have ix := indexS B (B.size - 1) hBl
          by_cases h32 : (B[B.size - 1]).toNat = 32
          · obtain ⟨hw2, hm1, hB2⟩ := hmore hBl h32
            have sx := sliceS0 B (B.size - 1) (by omega)
            rw [h32] at ix
            have q1 : (1 : Int) < (B.size : Int) := by omega
            have MR := Lib.hid (show ∃ (m : Nat) (B' : ByteArray), Value.string (B.extract 0 (B.size - 1)) = .string B' ∧ bytesN B' = (wl ++ gl).take m ∧ wl.length ≤ m ∧ m ≤ (wl ++ gl).length from ⟨B.size - 1, _, rfl, hB2, hw2, by omega⟩)
            have ML := Lib.hid (show (B.extract 0 (B.size - 1)).size < B.size by rw [ByteArray.size_extract]; omega)
            clear hmore hw2 hm1 hB2 hB hwm hmg h32
            go_wp2_with fail
            go_roundw
            case rel =>
              obtain ⟨m', B', e1, e2, e3, e4⟩ := MR.out
              exact ⟨m', B', e1, e2, e3, e4, hbo⟩
            case measure => exact ML.out
          · have h32b : ((((B[B.size - 1]).toNat : Nat) : Int) == 32) = false := by rw [beq_eq_false_iff_ne]; omega
            obtain ⟨T', hT', a1⟩ := addB T B (by omega)
            obtain ⟨D1, hD1, a2⟩ := addB D B (by omega)
            have hD1s : D1.size = D.size + B.size := by rw [← bytesN_len, hD1, List.length_append, bytesN_len, bytesN_len]
            have BW := Lib.hid (hbw.trans (hbo.mono hbw.size))
            have NX0 := Lib.hid (NX.out _ B T' D1 [] hB hwm hT' (by rw [hD1, List.append_nil]) (fun x hx => by cases hx) (Nat.zero_le _))
            have NXX := Lib.hid (fun (D' : ByteArray) (X : List Nat) (h : bytesN D' = bytesN D1 ++ X) hX hX4 => NX.out _ B T' D' X hB hwm hT' (by rw [h, hD1]) hX hX4)
            have hd1 : D1.size ≤ 100000 := by omega
            clear hmore hB hwm hmg h32 hT' hD1 hD1s
            by_cases hkn : k < n
            · obtain ⟨ad, z, rfl, hbk, hz⟩ := HM.out k hkn
              have dz := ((T3.out.below.trans (BW.out.mono T3.out.below.size)).cell hbk).trans hz
              clear hz
              by_cases hzp : 0 < z
              · have hq : (1 + z % 4).toNat ≤ 4 := by omega
                obtain ⟨X, hX⟩ : ∃ X, X = (⟨#[32, 32, 32, 9]⟩ : ByteArray).extract 0 (1 + z % 4).toNat := ⟨_, rfl⟩
                have NX1 := Lib.hid (show BI l s.size (k + 1) T' (D1 ++ (⟨#[32, 32, 32, 9]⟩ : ByteArray).extract 0 (1 + z % 4).toNat) from NXX.out _ _ (bytesN_app _ _) (blankX _ hq).1 (by rw [bytesN_len]; exact (blankX _ hq).2))
                clear hX hq
                go_wp2_with fail
                go_roundw
                case rel => exact ⟨k + 1, T', _, by go_num, rfl, rfl, NX1.out, BW.out⟩
                case measure => simp [intOf]; omega
              · go_wp2_with fail
                go_roundw
                case rel => exact ⟨k + 1, T', D1, by go_num, rfl, rfl, NX0.out, BW.out⟩
                case measure => simp [intOf]; omega
            · go_wp2_with fail
              go_roundw
              case rel => exact ⟨k + 1, T', D1, by go_num, rfl, rfl, NX0.out, BW.out⟩
              case measure => simp [intOf]; omega
      · have hE : endP l (k + 1) s.size = s.size := endP_ge h2
        rw [hE] at hcut hpE
        have hsg : bytesN (s.extract p s.size) = wl ++ gl := by rw [bytesN_sub _ _ _ (Nat.le_refl _)]; exact hcut
        have SG := Lib.hid hsg
        clear hE hp hcut hsg hEs
        have x1 : ¬ ((p : Int) < 0) := by omega
        have x2 : ¬ ((s.size : Int) < (s.size : Int)) := by omega
        have x3 : ¬ ((s.size : Int) ≤ (p : Int)) := by omega
        have x4 : ¬ ((k : Int) + 1 < (l.length : Int)) := by omega
        have x5 : ((k : Int) + 1).toNat = k + 1 := by omega
        have x6 : IntKind.i64.wrap ((k : Int) + 1) = (k : Int) + 1 := IntWalk.i64_in _ (by unfold maxLen at LN'; omega)
        have sl := sliceS s p s.size (by omega) (Nat.le_refl _)
        obtain ⟨SS, hSS⟩ : ∃ SS, SS = s.extract p s.size := ⟨_, rfl⟩
        rw [← hSS] at SG sl
        have hlen : (wl ++ gl).length ≤ 8000 := by rw [← SG.out, bytesN_len, hSS, ByteArray.size_extract]; omega
        have hS8 : SS.size ≤ 8000 := by rw [hSS, ByteArray.size_extract]; omega
        clear hSS
        go_wp2_with fail
        go_loopw [15] (fun v wr => ∃ (m : Nat) (B : ByteArray), v = .string B ∧ bytesN B = (wl ++ gl).take m ∧ wl.length ≤ m ∧ m ≤ (wl ++ gl).length ∧ Below wo.heap.size wo wr) (fun v _ => (strOf v).size)
        case atStart => exact ⟨_, SS, rfl, by rw [SG.out, List.take_length], by rw [List.length_append]; omega, Nat.le_refl _, (al_below wo _)⟩
        case round =>
          obtain ⟨m, B, rfl, hB, hwm, hmg, hbo⟩ := hrel
          obtain ⟨rfl, hm0, hmore⟩ := trim_more hB hwm hmg WN.out.1 WN.out.2
          have hBl : B.size - 1 < B.size := by omega
          have q0 : IntKind.i64.wrap ((B.size : Int) - 1) = ((B.size - 1 : Nat) : Int) := by
            rw [IntWalk.i64_in _ (by omega)]
            omega
          have ix := indexS B (B.size - 1) hBl
          by_cases h32 : (B[B.size - 1]).toNat = 32
          · obtain ⟨hw2, hm1, hB2⟩ := hmore hBl h32
            have sx := sliceS0 B (B.size - 1) (by omega)
            rw [h32] at ix
            have q1 : (1 : Int) < (B.size : Int) := by omega
            have MR := Lib.hid (show ∃ (m : Nat) (B' : ByteArray), Value.string (B.extract 0 (B.size - 1)) = .string B' ∧ bytesN B' = (wl ++ gl).take m ∧ wl.length ≤ m ∧ m ≤ (wl ++ gl).length from ⟨B.size - 1, _, rfl, hB2, hw2, by omega⟩)
            have ML := Lib.hid (show (B.extract 0 (B.size - 1)).size < B.size by rw [ByteArray.size_extract]; omega)
            clear hmore hw2 hm1 hB2 hB hwm hmg h32
            go_wp2_with fail
            go_roundw
            case rel =>
              obtain ⟨m', B', e1, e2, e3, e4⟩ := MR.out
              exact ⟨m', B', e1, e2, e3, e4, hbo⟩
            case measure => exact ML.out
          · have h32b : ((((B[B.size - 1]).toNat : Nat) : Int) == 32) = false := by rw [beq_eq_false_iff_ne]; omega
            obtain ⟨T', hT', a1⟩ := addB T B (by omega)
            obtain ⟨D1, hD1, a2⟩ := addB D B (by omega)
            have hD1s : D1.size = D.size + B.size := by rw [← bytesN_len, hD1, List.length_append, bytesN_len, bytesN_len]
            have BW := Lib.hid (hbw.trans (hbo.mono hbw.size))
            have NX0 := Lib.hid (NX.out _ B T' D1 [] hB hwm hT' (by rw [hD1, List.append_nil]) (fun x hx => by cases hx) (Nat.zero_le _))
            have NXX := Lib.hid (fun (D' : ByteArray) (X : List Nat) (h : bytesN D' = bytesN D1 ++ X) hX hX4 => NX.out _ B T' D' X hB hwm hT' (by rw [h, hD1]) hX hX4)
            have hd1 : D1.size ≤ 100000 := by omega
            clear hmore hB hwm hmg h32 hT' hD1 hD1s
            by_cases hkn : k < n
            · obtain ⟨ad, z, rfl, hbk, hz⟩ := HM.out k hkn
              have dz := ((T3.out.below.trans (BW.out.mono T3.out.below.size)).cell hbk).trans hz
              clear hz
              by_cases hzp : 0 < z
              · have hq : (1 + z % 4).toNat ≤ 4 := by omega
                obtain ⟨X, hX⟩ : ∃ X, X = (⟨#[32, 32, 32, 9]⟩ : ByteArray).extract 0 (1 + z % 4).toNat := ⟨_, rfl⟩
                have NX1 := Lib.hid (show BI l s.size (k + 1) T' (D1 ++ (⟨#[32, 32, 32, 9]⟩ : ByteArray).extract 0 (1 + z % 4).toNat) from NXX.out _ _ (bytesN_app _ _) (blankX _ hq).1 (by rw [bytesN_len]; exact (blankX _ hq).2))
                clear hX hq
                go_wp2_with fail
                go_roundw
                case rel => exact ⟨k + 1, T', _, by go_num, rfl, rfl, NX1.out, BW.out⟩
                case measure => simp [intOf]; omega
              · go_wp2_with fail
                go_roundw
                case rel => exact ⟨k + 1, T', D1, by go_num, rfl, rfl, NX0.out, BW.out⟩
                case measure => simp [intOf]; omega
            · go_wp2_with fail
              go_roundw
              case rel => exact ⟨k + 1, T', D1, by go_num, rfl, rfl, NX0.out, BW.out⟩
              case measure => simp [intOf]; omega
    · obtain rfl : k = l.length := by omega
      have HT := Lib.hid (fun W h => RD.out T (by have := HI.out.thin; rwa [List.take_length] at this) (by omega) W h)
      have HD := Lib.hid (fun (hz : D.size ≤ 8000) W h => RD.out D (by have := HI.out.wide; rwa [List.take_length] at this) hz W h)
      have T4 := Lib.hid (T3.out.keep hbw)
      obtain ⟨x0, x1, x2⟩ := T4.out.box.cells
      clear hk hTs hel hds hkp hbw hlt HI
      go_wp2_with fail
      refine (HT.out _ T4.out.below).mono ?_
      rintro e w4 ⟨rfl, hb4⟩
      have T5 := Lib.hid (T4.out.keep hb4)
      clear hb4 x0 x1 x2
      obtain ⟨x0, x1, x2⟩ := T5.out.box.cells
      by_cases hz : 8000 < D.size
      · have y1 : (8000 : Int) < (D.size : Int) := by omega
        go_wp2_with fail
        go_ret
        exact ⟨rfl, T5.out.below⟩
      · have y1 : ¬ ((8000 : Int) < (D.size : Int)) := by omega
        have HD' := Lib.hid (HD.out (by omega))
        clear hz
        go_wp2_with fail
        refine (HD'.out _ T5.out.below).mono ?_
        rintro e w6 ⟨rfl, hb6⟩
        have T6 := Lib.hid (T5.out.keep hb6)
        clear hb6 x0 x1 x2
        go_wp2_with fail
        go_ret
        exact ⟨rfl, T6.out.below⟩
set_option maxHeartbeats 2000000 in
set_option maxRecDepth 100000 in
theorem blanks_law (t : Tr) (A : Option Addr) (c : Nat) (M : Option Addr) (n cap : Nat) (zs : List Int) (w : World) (ht : IsT w w.heap.size t A c) (hM : IsRow .i64 w M n cap zs) :
    Calls Tryd.prog 5 #[.agg #[.int .i64 t.k, .int .i64 t.i, .slice A t.ks.length c], .slice M n cap] w fun e w' => e = .returned (.bool true) ∧ Below w.heap.size w w' := by
  obtain ⟨hR, hn⟩ := rdM_of hM
  by_cases hr : rightN t = 0
  · exact blanks_right t A c M n cap w hr ht hn hR
  · have T0 := Lib.hid (TY.start w t.k t.i A t.ks.length c)
    obtain ⟨ra, hra⟩ : ∃ ra, ra = rightN t := ⟨_, rfl⟩
    obtain ⟨sa, hsa⟩ : ∃ sa : ByteArray, sa = ⟨(printL t).toArray⟩ := ⟨_, rfl⟩
    have PA := Lib.hid (fun (W : World) (h : Below w.heap.size w W) => hra ▸ hsa ▸ print_any t A c W (ht.keep h h.size))
    have QA := Lib.hid (fun (W : World) (h : Below w.heap.size w W) => hra ▸ rright_any t A c W (ht.keep h h.size))
    have e1 : ((ra : Int) != (ra : Int)) = false := by simp
    have e3 : ((ra : Int) != 0) = true := by rw [bne_iff_ne]; omega
    clear ht hM hR hn hra hsa hr
    obtain ⟨x0, x1, x2⟩ := T0.out.box.cells
    go_enter Tryd.func5, Tryd.ntmps5
    go_wp2_with fail
    refine (PA.out _ T0.out.below).mono ?_
    rintro e w1 ⟨rfl, hb1⟩
    have T1 := Lib.hid (T0.out.keep hb1)
    clear hb1 x0 x1 x2 T0
    obtain ⟨x0, x1, x2⟩ := T1.out.box.cells
    go_wp2_with fail
    refine (QA.out _ T1.out.below).mono ?_
    rintro e w2 ⟨rfl, hb2⟩
    have T2 := Lib.hid (T1.out.keep hb2)
    clear hb2 x0 x1 x2 T1
    go_wp2_with fail
    go_ret
    exact ⟨rfl, T2.out.below⟩
end Go.Proofs.YtgnfbhemkombaaaDoor
