/- T23, T24, P30, P31, P32, E4, LK, L9, Y5, one behind the other. -/
import Derived.Test.YtgnfbhemkombaaaDoorT22
import Derived.Test.YtgnfbhemkombaaaDoorT9
import Derived.Test.YtgnfbhemkombaaaDoorT10
import Derived.Test.YtgnfbhemkombaaaDoorP29
import Derived.Test.YtgnfbhemkombaaaDoorP22
import Derived.Test.YtgnfbhemkombaaaDoorE3
import Derived.Test.YtgnfbhemkombaaaDoorY4
namespace Go.Proofs.YtgnfbhemkombaaaDoor
set_option linter.unusedVariables false
set_option linter.unusedSimpArgs false
/-- a token's kind and number -/
def kn (t : Tok) : Nat × Nat := (t.k, t.n)
def commasK : List (List (Nat × Nat)) → List (Nat × Nat)
  | [] => []
  | x :: r => [(4, 44)] ++ x ++ commasK r
def listK : List (List (Nat × Nat)) → List (Nat × Nat)
  | [] => []
  | x :: r => [(4, 40)] ++ x ++ commasK r ++ [(4, 41)]
def betwK (c : Nat) (xs : List (List (Nat × Nat))) : List (Nat × Nat) := xs.getD 0 [] ++ [(4, c)] ++ xs.getD 1 []
/-- the tokens of a node, by those of its kids -/
def nodeK9 (k i : Int) (xs : List (List (Nat × Nat))) : List (Nat × Nat) :=
  if k = 1 then [(1, i.toNat)] ++ listK xs else if k = 2 then [(2, i.toNat)] ++ listK xs else if k = 3 then [(3, i.toNat)] ++ listK xs
  else if k = 4 then betwK 61 xs else if k = 5 then [(4, 33)] ++ xs.getD 0 []
  else if k = 7 then [(4, 64), (1, i.toNat)] ++ xs.getD 0 [] else if k = 10 then [(4, 63), (1, i.toNat)] ++ xs.getD 0 []
  else if k = 6 then [(4, 40)] ++ betwK 62 xs ++ [(4, 41)] else if k = 8 then [(4, 40)] ++ betwK 38 xs ++ [(4, 41)] else [(4, 40)] ++ betwK 124 xs ++ [(4, 41)]
mutual
def toksT : Tr → List (Nat × Nat)
  | .node k i ks => nodeK9 k i (toksL ks)
def toksL : List Tr → List (List (Nat × Nat))
  | [] => []
  | t :: r => toksT t :: toksL r
end
theorem toksL_map (l : List Tr) : toksL l = l.map toksT := by
  induction l with
  | nil => simp [toksL]
  | cons t r ih => simp [toksL, ih]
theorem toksT_eq (t : Tr) : toksT t = nodeK9 t.k t.i (t.ks.map toksT) := by
  cases t
  rw [toksT, toksL_map]
  rfl
def nb (l : List UInt8) : List Nat := l.map fun b => b.toNat
theorem nb_app (a b : List UInt8) : nb (a ++ b) = nb a ++ nb b := by simp [nb]
/-- no digit stands first -/
def NdL (l : List Nat) : Prop := ∀ c r, l = c :: r → isDigN c = false
theorem NdL.nil : NdL [] := fun c r h => by cases h
theorem NdL.cons {c : Nat} {r : List Nat} (h : isDigN c = false) : NdL (c :: r) := fun c' r' e => by cases e; exact h
theorem NdL.app {a b : List Nat} (ha : NdL a) (hb : NdL b) : NdL (a ++ b) := by
  cases a with
  | nil => exact hb
  | cons c r => exact NdL.cons (ha c r rfl)
theorem NdL.digs {l : List Nat} (h : NdL l) : digsN l = 0 := by
  cases l with
  | nil => rfl
  | cons c r => simp [digsN, h c r rfl]
/-- s is cut into tokens of these kinds and numbers, whatever stands behind that is no digit -/
def Lx (s : List Nat) (ks : List (Nat × Nat)) : Prop := ∀ (i : Nat) (rest : List Nat), NdL rest → ∃ l : List Tok, l.map kn = ks ∧ lexN i (s ++ rest) = (lexN (i + s.length) rest).pre l
theorem Lx.nil : Lx [] [] := fun i rest _ => ⟨[], rfl, by simp [LexR.pre_nil]⟩
theorem Lx.app {a b : List Nat} {ka kb : List (Nat × Nat)} (ha : Lx a ka) (hb : Lx b kb) (hn : NdL b) : Lx (a ++ b) (ka ++ kb) := by
  intro i rest hr
  obtain ⟨l1, h1, e1⟩ := ha i (b ++ rest) (hn.app hr)
  obtain ⟨l2, h2, e2⟩ := hb (i + a.length) rest hr
  refine ⟨l1 ++ l2, by rw [List.map_append, h1, h2], ?_⟩
  rw [List.append_assoc, e1, e2, LexR.pre_pre, List.length_append, Nat.add_assoc]
theorem Lx.sign {c : Nat} (h : isSignT c = true) (hb : ¬ (c = 32 ∨ c = 9)) : Lx [c] [(4, c)] := by
  intro i rest _
  refine ⟨[⟨4, c, i⟩], rfl, ?_⟩
  have e : stepN c rest = .tok 4 c 0 := by unfold stepN; rw [if_neg hb, if_pos h]
  show lexN i (c :: rest) = _
  rw [lexN_tok e]
  rfl
theorem Lx.blank : Lx [32] [] := by
  intro i rest _
  refine ⟨[], rfl, ?_⟩
  have e : stepN 32 rest = .blank := by unfold stepN; rw [if_pos (.inl rfl)]
  show lexN i (32 :: rest) = _
  rw [lexN_blank e, LexR.pre_nil]
  rfl
theorem dec_small {n : Nat} (h : n < 10) : nb (Lib.decDigits n) = [48 + n] := by
  rw [Lib.decDigits, dif_pos h]
  simp only [nb, List.map_cons, List.map_nil, UInt8.toNat_ofNat']
  rw [Nat.mod_eq_of_lt (by omega)]
theorem dec_two {n : Nat} (h : 10 ≤ n) (h2 : n < 100) : nb (Lib.decDigits n) = [48 + n / 10, 48 + n % 10] := by
  rw [Lib.decDigits, dif_neg (by omega), nb_app, dec_small (by omega)]
  simp only [nb, List.map_cons, List.map_nil, UInt8.toNat_ofNat']
  rw [Nat.mod_eq_of_lt (by omega)]
  rfl
theorem dig_is {d : Nat} (h : d < 10) : isDigN (48 + d) = true := by
  unfold isDigN
  rw [decide_eq_true (by omega), decide_eq_true (by omega)]
  rfl
/-- a letter with its number -/
theorem Lx.letter {c k most : Nat} (hl : letterN c = some (k, most)) (hb : ¬ (c = 32 ∨ c = 9)) (hs : isSignT c = false) {n : Nat} (h : n ≤ most) (h99 : most ≤ 99) : Lx (c :: nb (Lib.decDigits n)) [(k, n)] := by
  intro i rest hr
  have hz := hr.digs
  have key : digsN (nb (Lib.decDigits n) ++ rest) = (nb (Lib.decDigits n)).length ∧ numN (nb (Lib.decDigits n)) most = some n := by
    by_cases h10 : n < 10
    · rw [dec_small h10]
      refine ⟨by show digsN ((48 + n) :: rest) = 1; rw [digsN, if_pos (dig_is h10), hz], ?_⟩
      unfold numN
      rw [if_neg (by simp), show valN [48 + n] = n by simp [valN], if_neg (by omega)]
    · rw [dec_two (by omega) (by omega)]
      refine ⟨?_, ?_⟩
      · show digsN ((48 + n / 10) :: (48 + n % 10) :: rest) = 2
        rw [digsN, if_pos (dig_is (by omega)), digsN, if_pos (dig_is (by omega)), hz]
      · have hv : valN [48 + n / 10, 48 + n % 10] = n := by simp [valN]; omega
        unfold numN
        rw [if_neg (by simp; omega), hv, if_neg (by omega)]
  refine ⟨[⟨k, n, i⟩], rfl, ?_⟩
  have e : stepN c (nb (Lib.decDigits n) ++ rest) = .tok k n (nb (Lib.decDigits n)).length := by
    unfold stepN
    rw [if_neg hb, if_neg (by rw [hs]; simp), hl]
    show (match numN ((nb (Lib.decDigits n) ++ rest).take (digsN (nb (Lib.decDigits n) ++ rest))) most with | none => Step.err 31 | some m => Step.tok k m (digsN (nb (Lib.decDigits n) ++ rest))) = _
    rw [key.1, List.take_left, key.2]
  show lexN i (c :: (nb (Lib.decDigits n) ++ rest)) = _
  rw [lexN_tok e, List.drop_left, List.length_cons, show i + ((nb (Lib.decDigits n)).length + 1) = i + 1 + (nb (Lib.decDigits n)).length by omega]
/-- what a text is cut into, and that it begins with no digit -/
def Lxn (s : List Nat) (ks : List (Nat × Nat)) : Prop := Lx s ks ∧ NdL s
theorem Lxn.app {a b : List Nat} {ka kb : List (Nat × Nat)} (ha : Lxn a ka) (hb : Lxn b kb) : Lxn (a ++ b) (ka ++ kb) := ⟨ha.1.app hb.1 hb.2, ha.2.app hb.2⟩
theorem Lxn.nil : Lxn [] [] := ⟨Lx.nil, NdL.nil⟩
theorem Lxn.sign {c : Nat} (h : isSignT c = true) (hb : ¬ (c = 32 ∨ c = 9)) (hd : isDigN c = false) : Lxn [c] [(4, c)] := ⟨Lx.sign h hb, NdL.cons hd⟩
theorem Lxn.blank : Lxn [32] [] := ⟨Lx.blank, NdL.cons rfl⟩
theorem Lxn.letter {c k most : Nat} (hl : letterN c = some (k, most)) (hb : ¬ (c = 32 ∨ c = 9)) (hs : isSignT c = false) {n : Nat} (h : n ≤ most) (h99 : most ≤ 99) (hd : isDigN c = false) : Lxn ([c] ++ nb (Lib.decDigits n)) [(k, n)] := ⟨Lx.letter hl hb hs h h99, NdL.cons hd⟩
theorem lx_commas (l : List Tr) (h : ∀ q ∈ l, Lxn (nb (textT q)) (toksT q)) : Lxn (nb (commasT (l.map textT))) (commasK (l.map toksT)) := by
  induction l with
  | nil => exact Lxn.nil
  | cons t r ih =>
    have h1 := h t (by simp)
    have h2 := ih fun q hq => h q (by simp [hq])
    simp only [List.map_cons, commasT, commasK, nb_app]
    exact (((Lxn.sign (c := 44) rfl (by decide) rfl).app Lxn.blank).app h1).app h2
theorem lx_list (l : List Tr) (h : ∀ q ∈ l, Lxn (nb (textT q)) (toksT q)) : Lxn (nb (listX (l.map textT))) (listK (l.map toksT)) := by
  cases l with
  | nil => exact Lxn.nil
  | cons t r =>
    have h1 := h t (by simp)
    have h2 := lx_commas r fun q hq => h q (by simp [hq])
    simp only [List.map_cons, listX, listK, nb_app]
    exact (((Lxn.sign (c := 40) rfl (by decide) rfl).app h1).app h2).app (Lxn.sign (c := 41) rfl (by decide) rfl)
theorem lx_betw (s : List UInt8) (c : Nat) (x y : Tr) (hs : nb s = [32] ++ [c] ++ [32]) (hc : isSignT c = true) (hb : ¬ (c = 32 ∨ c = 9)) (hd : isDigN c = false) (hx : Lxn (nb (textT x)) (toksT x)) (hy : Lxn (nb (textT y)) (toksT y)) : Lxn (nb (betwX s [textT x, textT y])) (betwK c [toksT x, toksT y]) := by
  have e : nb (betwX s [textT x, textT y]) = nb (textT x) ++ ([32] ++ [c] ++ [32]) ++ nb (textT y) := by
    show nb (textT x ++ s ++ textT y) = _
    rw [nb_app, nb_app, hs]
  have f : betwK c [toksT x, toksT y] = toksT x ++ ([] ++ [(4, c)] ++ []) ++ toksT y := by simp [betwK]
  rw [e, f]
  exact (hx.app ((Lxn.blank.app (Lxn.sign hc hb hd)).app Lxn.blank)).app hy
/-- a right tree's text is cut into its tokens -/
theorem lx_text (t : Tr) : t.shp = true → Lxn (nb (textT t)) (toksT t) := by
  induction t using Tr.ind with
  | h t ih =>
    intro h
    have ihk : ∀ q ∈ t.ks, Lxn (nb (textT q)) (toksT q) := fun q hq => ih q hq (shp_kidY h hq)
    obtain ⟨i0, i1, hc⟩ := shp_node h
    have hv : t.k = 1 ∨ t.k = 7 ∨ t.k = 10 → t.i ≤ 63 := fun hk => by
      rw [shp_eq, Bool.and_eq_true] at h
      have h1 := h.1
      unfold kindOk at h1
      rcases hk with hk | hk | hk <;> rw [hk] at h1 <;> simp at h1 <;> omega
    rw [textT_eq, toksT_eq]
    rcases hc with ⟨hk, hks⟩ | ⟨hk, hks⟩ | ⟨⟨a, hks⟩, hk⟩ | ⟨⟨a, b, hks⟩, hk⟩
    · have := hv (.inl hk)
      rw [hks, hk]
      show Lxn (nb ([120] ++ decT t.i ++ [])) ([(1, t.i.toNat)] ++ [])
      rw [List.append_nil, List.append_nil, nb_app]
      exact Lxn.letter (c := 120) rfl (by decide) rfl (most := 63) (by omega) (by omega) rfl
    · have hl := lx_list t.ks ihk
      rcases hk with hk | hk
      · rw [hk]
        show Lxn (nb ([102] ++ decT t.i ++ listX (t.ks.map textT))) ([(2, t.i.toNat)] ++ listK (t.ks.map toksT))
        rw [nb_app, nb_app]
        exact (Lxn.letter (c := 102) rfl (by decide) rfl (most := 99) (by omega) (by omega) rfl).app hl
      · rw [hk]
        show Lxn (nb ([80] ++ decT t.i ++ listX (t.ks.map textT))) ([(3, t.i.toNat)] ++ listK (t.ks.map toksT))
        rw [nb_app, nb_app]
        exact (Lxn.letter (c := 80) rfl (by decide) rfl (most := 99) (by omega) (by omega) rfl).app hl
    · have ha := ihk a (by rw [hks]; simp)
      rcases hk with hk | hk | hk
      · rw [hks, hk]
        show Lxn (nb ([33] ++ textT a)) ([(4, 33)] ++ toksT a)
        rw [nb_app]
        exact (Lxn.sign (c := 33) rfl (by decide) rfl).app ha
      · have := hv (.inr (.inl hk))
        rw [hks, hk]
        show Lxn (nb ([64, 120] ++ decT t.i ++ [32] ++ textT a)) ([(4, 64), (1, t.i.toNat)] ++ toksT a)
        have e : nb ([64, 120] ++ decT t.i ++ [32] ++ textT a) = [64] ++ ([120] ++ nb (decT t.i)) ++ [32] ++ nb (textT a) := by simp [nb]
        have f : [(4, 64), (1, t.i.toNat)] ++ toksT a = [(4, 64)] ++ [(1, t.i.toNat)] ++ [] ++ toksT a := by simp
        rw [e, f]
        exact (((Lxn.sign (c := 64) rfl (by decide) rfl).app (Lxn.letter (c := 120) rfl (by decide) rfl (most := 63) (by omega) (by omega) rfl)).app Lxn.blank).app ha
      · have := hv (.inr (.inr hk))
        rw [hks, hk]
        show Lxn (nb ([63, 120] ++ decT t.i ++ [32] ++ textT a)) ([(4, 63), (1, t.i.toNat)] ++ toksT a)
        have e : nb ([63, 120] ++ decT t.i ++ [32] ++ textT a) = [63] ++ ([120] ++ nb (decT t.i)) ++ [32] ++ nb (textT a) := by simp [nb]
        have f : [(4, 63), (1, t.i.toNat)] ++ toksT a = [(4, 63)] ++ [(1, t.i.toNat)] ++ [] ++ toksT a := by simp
        rw [e, f]
        exact (((Lxn.sign (c := 63) rfl (by decide) rfl).app (Lxn.letter (c := 120) rfl (by decide) rfl (most := 63) (by omega) (by omega) rfl)).app Lxn.blank).app ha
    · have ha := ihk a (by rw [hks]; simp)
      have hb := ihk b (by rw [hks]; simp)
      have par : ∀ (s : List UInt8) (c : Nat), nb s = [32] ++ [c] ++ [32] → isSignT c = true → ¬ (c = 32 ∨ c = 9) → isDigN c = false → Lxn (nb ([40] ++ betwX s [textT a, textT b] ++ [41])) ([(4, 40)] ++ betwK c [toksT a, toksT b] ++ [(4, 41)]) := fun s c h1 h2 h3 h4 => by
        rw [nb_app, nb_app]
        exact ((Lxn.sign (c := 40) rfl (by decide) rfl).app (lx_betw s c a b h1 h2 h3 h4 ha hb)).app (Lxn.sign (c := 41) rfl (by decide) rfl)
      rcases hk with hk | hk | hk | hk
      · rw [hks, hk]
        exact lx_betw [32, 61, 32] 61 a b rfl rfl (by decide) rfl ha hb
      · rw [hks, hk]
        exact par [32, 62, 32] 62 rfl rfl (by decide) rfl
      · rw [hks, hk]
        exact par [32, 38, 32] 38 rfl rfl (by decide) rfl
      · rw [hks, hk]
        exact par [32, 124, 32] 124 rfl rfl (by decide) rfl
/-- of the whole text -/
theorem lex_text {t : Tr} (h : t.shp = true) (hz : t.sz ≤ 1000) : ∃ l : List Tok, l.map kn = toksT t ∧ lexAll (nb (textT t)) = .ok l := by
  obtain ⟨l, h1, h2⟩ := (lx_text t h).1 0 [] NdL.nil
  refine ⟨l, h1, ?_⟩
  have hl := text_len t h
  unfold lexAll
  rw [if_neg (by simp [nb]; omega)]
  rw [List.append_nil] at h2
  rw [h2, lexN_nil]
  simp [LexR.pre]
end Go.Proofs.YtgnfbhemkombaaaDoor
namespace Go.Proofs.YtgnfbhemkombaaaDoor
set_option linter.unusedVariables false
set_option linter.unusedSimpArgs false
theorem map_split {l : List Tok} {a b : List (Nat × Nat)} (h : l.map kn = a ++ b) : ∃ l1 l2, l = l1 ++ l2 ∧ l1.map kn = a ∧ l2.map kn = b := by
  refine ⟨l.take a.length, l.drop a.length, (List.take_append_drop _ _).symm, ?_, ?_⟩
  · rw [List.map_take, h, List.take_left]
  · rw [List.map_drop, h, List.drop_left]
theorem map_one {l : List Tok} {k n : Nat} (h : l.map kn = [(k, n)]) : ∃ t, l = [t] ∧ t.k = k ∧ t.n = n := by
  match l, h with
  | [t], h =>
    have e : kn t = (k, n) := by simpa using h
    exact ⟨t, rfl, congrArg Prod.fst e, congrArg Prod.snd e⟩
theorem map_cons9 {l : List Tok} {k n : Nat} {b : List (Nat × Nat)} (h : l.map kn = (k, n) :: b) : ∃ t l2, l = t :: l2 ∧ t.k = k ∧ t.n = n ∧ l2.map kn = b := by
  match l, h with
  | t :: l2, h =>
    rw [List.map_cons] at h
    have e : kn t = (k, n) := (List.cons.inj h).1
    exact ⟨t, l2, rfl, congrArg Prod.fst e, congrArg Prod.snd e, (List.cons.inj h).2⟩
theorem stands_is {c : Nat} {t : Tok} {r : List Tok} (h4 : t.k = 4) (hn : t.n = c) : stands c (t :: r) = true := by simp [stands, h4, hn]
theorem stands_not {c : Nat} {t : Tok} {r : List Tok} (hn : t.n ≠ c) : stands c (t :: r) = false := by simp [stands, hn]
/-- a reader that reads these trees -/
def Rds (T : List Tok → PR) (t : Tr) : Prop := ∀ (l r : List Tok), l.map kn = toksT t → stands 40 r = false → T (l ++ r) = .ok t r
theorem args_read (T : List Tok → PR) (k n : Nat) : ∀ (ks : List Tr) (x : Tr) (c : Nat) (acc : List Tr) (l r : List Tok), (∀ q ∈ x :: ks, Rds T q) → ks.length < c → l.map kn = toksT x ++ commasK (ks.map toksT) ++ [(4, 41)] →
    argsL T k n c acc (l ++ r) = .ok (.node k n (acc ++ x :: ks)) r := by
  intro ks
  induction ks with
  | nil =>
    intro x c acc l r hT hc hl
    obtain ⟨c, rfl⟩ : ∃ d, c = d + 1 := ⟨c - 1, by simp at hc; omega⟩
    rw [List.map_nil, commasK, List.append_nil] at hl
    obtain ⟨l1, l2, rfl, h1, h2⟩ := map_split hl
    obtain ⟨t, rfl, h4, hn⟩ := map_one h2
    rw [List.append_assoc]
    simp only [argsL]
    rw [hT x (by simp) l1 ([t] ++ r) h1 (stands_not (by rw [hn]; decide))]
    show (if stands 41 (t :: r) = true then PR.ok (.node k n (acc ++ [x])) (t :: r).tail else _) = _
    rw [if_pos (stands_is h4 hn)]
    rfl
  | cons y ks ih =>
    intro x c acc l r hT hc hl
    obtain ⟨c, rfl⟩ : ∃ d, c = d + 1 := ⟨c - 1, by simp at hc; omega⟩
    have hl' : l.map kn = toksT x ++ ((4, 44) :: (toksT y ++ commasK (ks.map toksT) ++ [(4, 41)])) := by
      rw [hl]
      simp [commasK]
    obtain ⟨l1, l2, rfl, h1, h2⟩ := map_split hl'
    obtain ⟨t, l3, rfl, h4, hn, h3⟩ := map_cons9 h2
    rw [List.append_assoc]
    simp only [argsL]
    rw [hT x (by simp) l1 ((t :: l3) ++ r) h1 (stands_not (by rw [hn]; decide))]
    show (if stands 41 (t :: (l3 ++ r)) = true then PR.ok (.node k n (acc ++ [x])) (t :: (l3 ++ r)).tail else if c = 0 ∨ stands 44 (t :: (l3 ++ r)) = false then PR.bad (t :: (l3 ++ r)) else argsL T k n c (acc ++ [x]) (t :: (l3 ++ r)).tail) = _
    rw [if_neg (by rw [stands_not (by rw [hn]; decide)]; simp), if_neg (by
      rintro (h | h)
      · simp at hc; omega
      · rw [stands_is h4 hn] at h; cases h)]
    show argsL T k n c (acc ++ [x]) (l3 ++ r) = _
    rw [ih y c (acc ++ [x]) l3 r (fun q hq => hT q (by simp at hq ⊢; exact .inr hq)) (by simp at hc; omega) h3]
    simp
theorem argsP_read (T : List Tok → PR) (k n : Nat) (ks : List Tr) (l r : List Tok) (hT : ∀ q ∈ ks, Rds T q) (hc : ks.length ≤ 4) (hl : l.map kn = listK (ks.map toksT)) (hr : stands 40 r = false) :
    argsP T k n (l ++ r) = .ok (.node k n ks) r := by
  cases ks with
  | nil =>
    rw [List.map_nil, listK, List.map_eq_nil_iff] at hl
    subst hl
    unfold argsP
    rw [List.nil_append, if_neg (by rw [hr]; simp)]
  | cons x ks =>
    have hl' : l.map kn = (4, 40) :: (toksT x ++ commasK (ks.map toksT) ++ [(4, 41)]) := by
      rw [hl]
      simp [listK]
    obtain ⟨t, l3, rfl, h4, hn, h3⟩ := map_cons9 hl'
    unfold argsP
    rw [List.cons_append, if_pos (stands_is h4 hn)]
    show argsL T k n 4 [] (l3 ++ r) = _
    rw [args_read T k n ks x 4 [] l3 r hT (by simp at hc; omega) h3]
    rfl
theorem dp_kidY {t q : Tr} (hq : q ∈ t.ks) : q.dp < t.dp := by
  obtain ⟨m, hm, rfl⟩ := List.getElem_of_mem hq
  exact kid_dp t m hm
theorem kidsT_sort {t q : Tr} (h : t.shp = true) (hq : q ∈ t.ks) : termB q.k = kidsTerm t.k := by
  rw [shp_eq, Bool.and_eq_true, shpL_all, List.all_eq_true] at h
  have := h.2 q hq
  rw [Bool.and_eq_true, beq_iff_eq] at this
  exact this.1
theorem id_zero {t : Tr} (h : t.shp = true) (hk : t.k = 4 ∨ t.k = 5 ∨ t.k = 6 ∨ t.k = 8 ∨ t.k = 9) : t.i = 0 := by
  rw [shp_eq, Bool.and_eq_true] at h
  have h1 := h.1
  unfold kindOk at h1
  rcases hk with hk | hk | hk | hk | hk <;> rw [hk] at h1 <;> simp at h1 <;> exact h1.2.1
theorem term_kindT {t : Tr} (h : t.shp = true) (ht : termB t.k = true) : t.k = 1 ∨ t.k = 2 := by
  unfold termB at ht
  simpa using ht
theorem term_read : ∀ (f : Nat) (t : Tr), t.dp ≤ f → t.shp = true → termB t.k = true → Rds (termP f) t := by
  intro f
  induction f with
  | zero => intro t hd; have := dp_pos t; omega
  | succ f ih =>
    intro t hd hs ht l r hl hr
    obtain ⟨i0, i1, hc⟩ := shp_node hs
    rw [toksT_eq] at hl
    obtain ⟨k, i, ks⟩ := t
    simp only [Tr.k, Tr.i, Tr.ks] at i0 i1 hl hc
    rcases term_kindT hs ht with hk | hk
    · obtain rfl : k = 1 := hk
      obtain rfl : ks = [] := by
        rcases hc with ⟨_, h⟩ | ⟨h, _⟩ | ⟨_, h⟩ | ⟨_, h⟩
        · exact h
        all_goals omega
      obtain ⟨tk, rfl, h1, hn⟩ := map_one (k := 1) (n := i.toNat) hl
      show termP (f + 1) (tk :: r) = _
      simp only [termP]
      rw [if_pos h1, hn, show ((i.toNat : Nat) : Int) = i by omega]
    · obtain rfl : k = 2 := hk
      have hlen : ks.length ≤ 4 := by
        rcases hc with ⟨h, _⟩ | ⟨_, h⟩ | ⟨_, h⟩ | ⟨_, h⟩
        · omega
        · exact h
        all_goals omega
      obtain ⟨tk, l2, rfl, h1, hn, h2⟩ := map_cons9 (k := 2) (n := i.toNat) (b := listK (ks.map toksT)) hl
      show termP (f + 1) (tk :: (l2 ++ r)) = _
      simp only [termP]
      rw [if_neg (by rw [h1]; decide), if_pos h1, argsP_read (termP f) 2 tk.n ks l2 r (fun q hq => ih q (by have := dp_kidY (t := .node 2 i ks) hq; omega) (shp_kidY hs hq) (by rw [kidsT_sort hs hq]; rfl)) hlen h2 hr, hn]
      rw [show ((i.toNat : Nat) : Int) = i by omega]
      rfl
theorem toks_term {t : Tr} (hs : t.shp = true) (ht : termB t.k = true) : ∃ k n b, toksT t = (k, n) :: b ∧ (k = 1 ∨ k = 2) := by
  rw [toksT_eq]
  rcases term_kindT hs ht with hk | hk
  · rw [hk]; exact ⟨1, t.i.toNat, _, rfl, .inl rfl⟩
  · rw [hk]; exact ⟨2, t.i.toNat, _, rfl, .inr rfl⟩
theorem form_read : ∀ (f : Nat) (t : Tr), t.dp ≤ f → t.shp = true → termB t.k = false → Rds (formP f) t := by
  intro f
  induction f with
  | zero => intro t hd; have := dp_pos t; omega
  | succ f ih =>
    intro t hd hs ht l r hl hr
    obtain ⟨i0, i1, hc⟩ := shp_node hs
    rw [toksT_eq] at hl
    obtain ⟨k, i, ks⟩ := t
    have hq0 : ∀ q ∈ ks, q.shp = true := fun q hq => shp_kidY hs hq
    have hq1 : ∀ q ∈ ks, termB q.k = kidsTerm k := fun q hq => kidsT_sort hs hq
    have hq2 : ∀ q ∈ ks, q.dp ≤ f := fun q hq => by have := dp_kidY (t := .node k i ks) hq; omega
    have hi : (k = 4 ∨ k = 5 ∨ k = 6 ∨ k = 8 ∨ k = 9) → i = 0 := fun h => id_zero hs h
    simp only [Tr.k, Tr.i, Tr.ks] at i0 i1 hc
    change termB k = false at ht
    change l.map kn = nodeK9 k i (ks.map toksT) at hl
    rcases hc with ⟨hk, _⟩ | ⟨hk, hlen⟩ | ⟨⟨a, rfl⟩, hk⟩ | ⟨⟨a, b, rfl⟩, hk⟩
    · rw [hk] at ht; cases ht
    · rcases hk with hk | hk
      · rw [hk] at ht; cases ht
      · subst hk
        obtain ⟨tk, l2, rfl, h1, hn, h2⟩ := map_cons9 (k := 3) (n := i.toNat) (b := listK (ks.map toksT)) hl
        show formP (f + 1) (tk :: (l2 ++ r)) = _
        simp only [formP]
        rw [if_pos h1, argsP_read (termP f) 3 tk.n ks l2 r (fun q hq => term_read f q (hq2 q hq) (hq0 q hq) (by rw [hq1 q hq]; rfl)) hlen h2 hr, hn, show ((i.toNat : Nat) : Int) = i by omega]
        rfl
    · have ha := ih a (hq2 a (by simp)) (hq0 a (by simp))
      rcases hk with rfl | rfl | rfl
      · obtain ⟨tk, l2, rfl, h1, hn, h2⟩ := map_cons9 (k := 4) (n := 33) (b := toksT a) hl
        have e := hi (by simp)
        show formP (f + 1) (tk :: (l2 ++ r)) = _
        simp only [formP]
        rw [if_neg (by rw [h1]; decide), if_neg (by rw [h1]; decide), if_pos h1, if_pos hn]
        unfold notP
        rw [ha (by rw [hq1 a (by simp)]; rfl) l2 r h2 hr, e]
      · obtain ⟨tk, l2, rfl, h1, hn, h2⟩ := map_cons9 (k := 4) (n := 64) (b := (1, i.toNat) :: toksT a) hl
        obtain ⟨tv, l3, rfl, h3, hn3, h4⟩ := map_cons9 h2
        show formP (f + 1) (tk :: tv :: (l3 ++ r)) = _
        simp only [formP]
        rw [if_neg (by rw [h1]; decide), if_neg (by rw [h1]; decide), if_pos h1, if_neg (by rw [hn]; decide), if_pos hn]
        simp only [quantP]
        rw [if_pos h3, ha (by rw [hq1 a (by simp)]; rfl) l3 r h4 hr, hn3, show ((i.toNat : Nat) : Int) = i by omega]
        rfl
      · obtain ⟨tk, l2, rfl, h1, hn, h2⟩ := map_cons9 (k := 4) (n := 63) (b := (1, i.toNat) :: toksT a) hl
        obtain ⟨tv, l3, rfl, h3, hn3, h4⟩ := map_cons9 h2
        show formP (f + 1) (tk :: tv :: (l3 ++ r)) = _
        simp only [formP]
        rw [if_neg (by rw [h1]; decide), if_neg (by rw [h1]; decide), if_pos h1, if_neg (by rw [hn]; decide), if_neg (by rw [hn]; decide), if_pos hn]
        simp only [quantP]
        rw [if_pos h3, ha (by rw [hq1 a (by simp)]; rfl) l3 r h4 hr, hn3, show ((i.toNat : Nat) : Int) = i by omega]
        rfl
    · have pair : ∀ (c j : Nat), l.map kn = [(4, 40)] ++ betwK c [toksT a, toksT b] ++ [(4, 41)] → c ≠ 40 → (∀ tk r, tk.k = 4 → tk.n = c → jointN (tk :: r) = j) → j ≠ 0 → kidsTerm k = false → i = 0 → (j : Int) = k → formP (f + 1) (l ++ r) = .ok (.node k i [a, b]) r := by
        intro c j hl' hc hj hj0 hkt hi0 hjk
        have hl2 : l.map kn = (4, 40) :: (toksT a ++ ((4, c) :: (toksT b ++ [(4, 41)]))) := by rw [hl']; simp [betwK]
        obtain ⟨tk, l2, rfl, h1, hn, h2⟩ := map_cons9 hl2
        obtain ⟨la, l3, rfl, h3, h4⟩ := map_split h2
        obtain ⟨tj, l4, rfl, j1, jn, h5⟩ := map_cons9 h4
        obtain ⟨lb, l5, rfl, h6, h7⟩ := map_split h5
        obtain ⟨te, rfl, e1, en⟩ := map_one h7
        have e : (tk :: (la ++ tj :: (lb ++ [te]))) ++ r = tk :: (la ++ (tj :: (lb ++ (te :: r)))) := by simp
        rw [e]
        simp only [formP]
        rw [if_neg (by rw [h1]; decide), if_neg (by rw [h1]; decide), if_pos h1, if_neg (by rw [hn]; decide), if_neg (by rw [hn]; decide), if_neg (by rw [hn]; decide), if_pos hn]
        unfold pairP
        rw [ih a (hq2 a (by simp)) (hq0 a (by simp)) (by rw [hq1 a (by simp)]; exact hkt) la _ h3 (stands_not (by rw [jn]; exact hc))]
        show (if jointN (tj :: (lb ++ te :: r)) = 0 then PR.bad _ else match formP f (lb ++ te :: r) with | .bad r' => PR.bad r' | .ok b r2 => if stands 41 r2 then PR.ok (.node (jointN (tj :: (lb ++ te :: r))) 0 [a, b]) r2.tail else PR.bad r2) = _
        rw [hj tj _ j1 jn, if_neg hj0, ih b (hq2 b (by simp)) (hq0 b (by simp)) (by rw [hq1 b (by simp)]; exact hkt) lb _ h6 (stands_not (by rw [en]; decide))]
        show (if stands 41 (te :: r) = true then PR.ok (.node (j : Int) 0 [a, b]) (te :: r).tail else PR.bad (te :: r)) = _
        rw [if_pos (stands_is e1 en), hjk, hi0]
        rfl
      rcases hk with rfl | rfl | rfl | rfl
      · have hl2 : l.map kn = toksT a ++ ((4, 61) :: toksT b) := by rw [hl]; simp [nodeK9, betwK]
        obtain ⟨la, l3, rfl, h3, h4⟩ := map_split hl2
        obtain ⟨te, lb, rfl, e1, en, h6⟩ := map_cons9 h4
        have ta : termB a.k = true := by rw [hq1 a (by simp)]; rfl
        have tb : termB b.k = true := by rw [hq1 b (by simp)]; rfl
        obtain ⟨k1, n1, b1, h7, h8⟩ := toks_term (hq0 a (by simp)) ta
        obtain ⟨tx, lx, rfl, x1, xn, h9⟩ := map_cons9 (h3.trans h7)
        have e : (tx :: lx ++ te :: lb) ++ r = tx :: (lx ++ te :: (lb ++ r)) := by simp
        have ra := term_read f a (hq2 a (by simp)) (hq0 a (by simp)) ta (tx :: lx) (te :: (lb ++ r)) h3 (stands_not (by rw [en]; decide))
        have rb := term_read f b (hq2 b (by simp)) (hq0 b (by simp)) tb lb r h6 hr
        rw [e]
        simp only [formP]
        rw [if_neg (by rw [x1]; rcases h8 with rfl | rfl <;> decide), if_pos (by rw [x1]; exact h8)]
        unfold eqP
        rw [show tx :: (lx ++ te :: (lb ++ r)) = tx :: lx ++ te :: (lb ++ r) from rfl, ra]
        show (if stands 61 (te :: (lb ++ r)) = true then (match termP f (lb ++ r) with | .bad r' => PR.bad r' | .ok b r2 => PR.ok (.node 4 0 [a, b]) r2) else PR.bad (te :: (lb ++ r))) = _
        rw [if_pos (stands_is e1 en), rb, hi (by simp)]
      · exact pair 62 6 hl (by decide) (fun tk r h1 h2 => by unfold jointN; rw [if_pos (stands_is h1 h2)]) (by decide) rfl (hi (by simp)) rfl
      · exact pair 38 8 hl (by decide) (fun tk r h1 h2 => by unfold jointN; rw [if_neg (by rw [stands_not (by rw [h2]; decide)]; simp), if_pos (stands_is h1 h2)]) (by decide) rfl (hi (by simp)) rfl
      · exact pair 124 9 hl (by decide) (fun tk r h1 h2 => by unfold jointN; rw [if_neg (by rw [stands_not (by rw [h2]; decide)]; simp), if_neg (by rw [stands_not (by rw [h2]; decide)]; simp), if_pos (stands_is h1 h2)]) (by decide) rfl (hi (by simp)) rfl
/-- what reads a tree's text -/
def readerP (t : Tr) : Nat → List Tok → PR := if termB t.k = true then termP else formP
theorem tree_read {t : Tr} (hs : t.shp = true) (hd : t.dp ≤ 100) : Rds (readerP t 16100) t := by
  unfold readerP
  cases ht : termB t.k with
  | true => rw [if_pos rfl]; exact term_read 16100 t (by omega) hs ht
  | false => rw [if_neg (by simp)]; exact form_read 16100 t (by omega) hs ht
/-- two right trees with the same tokens are the same -/
theorem toks_inj {a b : Tr} (ha : a.shp = true) (hb : b.shp = true) (da : a.dp ≤ 100) (db : b.dp ≤ 100) (h : toksT a = toksT b) : a = b := by
  obtain ⟨l, h1, _⟩ : ∃ l : List Tok, l.map kn = toksT a ∧ True := ⟨(toksT a).map fun p => ⟨p.1, p.2, 0⟩, by rw [List.map_map]; exact (List.map_congr_left (g := id) fun p _ => rfl).trans (List.map_id _), trivial⟩
  have ra := tree_read ha da l [] h1 rfl
  have rb := tree_read hb db l [] (h1.trans h) rfl
  unfold readerP at ra rb
  cases ta : termB a.k with
  | true =>
    rw [ta, if_pos rfl] at ra
    cases tb : termB b.k with
    | true => rw [tb, if_pos rfl, ra] at rb; exact (PR.ok.inj rb).1
    | false =>
      exfalso
      rw [tb, if_neg (by simp)] at rb
      obtain ⟨k1, n1, b1, h7, h8⟩ := toks_term ha ta
      obtain ⟨tx, lx, rfl, x1, xn, h9⟩ := map_cons9 (h1.trans h7)
      have e := term_read 16099 a (by omega) ha ta (tx :: lx) [] h1 rfl
      rw [List.append_nil] at rb e
      rw [show (16100 : Nat) = 16099 + 1 from rfl] at rb
      simp only [formP] at rb
      rw [if_neg (by rw [x1]; rcases h8 with rfl | rfl <;> decide), if_pos (by rw [x1]; exact h8)] at rb
      unfold eqP at rb
      rw [e] at rb
      cases rb
  | false =>
    rw [ta, if_neg (by simp)] at ra
    cases tb : termB b.k with
    | false => rw [tb, if_neg (by simp), ra] at rb; exact (PR.ok.inj rb).1
    | true =>
      exfalso
      obtain ⟨k1, n1, b1, h7, h8⟩ := toks_term hb tb
      obtain ⟨tx, lx, rfl, x1, xn, h9⟩ := map_cons9 ((h1.trans h).trans h7)
      have e := term_read 16099 b (by omega) hb tb (tx :: lx) [] (h1.trans h) rfl
      rw [List.append_nil] at ra e
      rw [show (16100 : Nat) = 16099 + 1 from rfl] at ra
      simp only [formP] at ra
      rw [if_neg (by rw [x1]; rcases h8 with rfl | rfl <;> decide), if_pos (by rw [x1]; exact h8)] at ra
      unfold eqP at ra
      rw [e] at ra
      cases ra
theorem nb_inj {a b : List UInt8} (h : nb a = nb b) : a = b := by
  unfold nb at h
  exact (List.map_inj_right (fun x y e => UInt8.toNat_inj.1 e)).1 h
/-- two right trees with the same text are the same -/
theorem text_inj {a b : Tr} (ha : a.shp = true) (hb : b.shp = true) (za : a.sz ≤ 1000) (zb : b.sz ≤ 1000) (da : a.dp ≤ 100) (db : b.dp ≤ 100) (h : textT a = textT b) : a = b := by
  obtain ⟨l, h1, h2⟩ := lex_text ha za
  obtain ⟨m, h3, h4⟩ := lex_text hb zb
  rw [h, h4] at h2
  have e : m = l := LexR.ok.inj h2
  exact toks_inj ha hb da db (by rw [← h1, ← h3, e])
end Go.Proofs.YtgnfbhemkombaaaDoor
namespace Go.Proofs.YtgnfbhemkombaaaDoor
open Go.RowKit
set_option linter.unusedVariables false
set_option linter.unusedSimpArgs false
/-- a token's number is as its letter may have it -/
def tokB (t : Tok) : Prop := (t.k = 1 → t.n ≤ 63) ∧ (t.k = 2 ∨ t.k = 3 → t.n ≤ 99)
def TokOk (l : List Tok) : Prop := ∀ t ∈ l, tokB t
theorem TokOk.suf {l r : List Tok} (h : TokOk l) (hs : r <:+ l) : TokOk r := fun t ht => h t (hs.mem ht)
theorem stepN_tok {c k n z : Nat} {r : List Nat} (h : stepN c r = .tok k n z) : tokB ⟨k, n, 0⟩ := by
  unfold stepN at h
  split at h
  · cases h
  · split at h
    · cases h; exact ⟨fun e => (by cases e), fun e => by rcases e with e | e <;> cases e⟩
    · split at h
      · cases h
      · rename_i kk mm hL
        split at h
        · cases h
        · rename_i nn hN
          have hn := (numN_some hN).2
          cases h
          unfold letterN at hL
          by_cases h1 : c = 120
          · rw [if_pos h1] at hL; cases hL; exact ⟨fun _ => hn, fun e => by rcases e with e | e <;> cases e⟩
          · rw [if_neg h1] at hL
            by_cases h2 : c = 102
            · rw [if_pos h2] at hL; cases hL; exact ⟨fun e => (by cases e), fun _ => hn⟩
            · rw [if_neg h2] at hL
              by_cases h3 : c = 80
              · rw [if_pos h3] at hL; cases hL; exact ⟨fun e => (by cases e), fun _ => hn⟩
              · rw [if_neg h3] at hL; cases hL
theorem lexN_ok : ∀ (k : Nat) (i : Nat) (b : List Nat) (l : List Tok), b.length ≤ k → lexN i b = .ok l → TokOk l := by
  intro k
  induction k with
  | zero =>
    intro i b l hk h
    have : b = [] := List.length_eq_zero_iff.1 (by omega)
    subst this
    rw [lexN_nil] at h
    cases h
    intro t ht
    cases ht
  | succ k ih =>
    intro i b l hk h
    cases b with
    | nil => rw [lexN_nil] at h; cases h; intro t ht; cases ht
    | cons c r =>
      simp only [List.length_cons] at hk
      cases hs : stepN c r with
      | blank => rw [lexN_blank hs] at h; exact ih _ _ _ (by omega) h
      | err e => rw [lexN_err hs] at h; cases h
      | tok kk n z =>
        rw [lexN_tok hs] at h
        cases hq : lexN (i + 1 + z) (r.drop z) with
        | bad a b => rw [hq] at h; cases h
        | ok l' =>
          rw [hq] at h
          cases h
          have h1 := ih _ _ _ (by rw [List.length_drop]; omega) hq
          intro t ht
          rcases List.mem_append.1 ht with e | e
          · simp only [List.mem_cons, List.not_mem_nil, or_false] at e
            subst e
            exact stepN_tok hs
          · exact h1 t e
theorem lexAll_ok {b : List Nat} {l : List Tok} (h : lexAll b = .ok l) : TokOk l := by
  unfold lexAll at h
  by_cases hb : 8000 < b.length
  · rw [if_pos hb] at h; cases h
  · rw [if_neg hb] at h
    exact lexN_ok _ _ _ _ (Nat.le_refl _) h
/-! ### shapes -/
def TmOk (t : Tr) : Prop := t.shp = true ∧ termB t.k = true
def FmOk (t : Tr) : Prop := t.shp = true ∧ termB t.k = false
theorem shpL_terms (l : List Tr) (h : ∀ t ∈ l, TmOk t) : shpL true l = true := by
  rw [shpL_all, List.all_eq_true]
  intro t ht
  obtain ⟨a, b⟩ := h t ht
  simp [a, b]
theorem shpL_forms (l : List Tr) (h : ∀ t ∈ l, FmOk t) : shpL false l = true := by
  rw [shpL_all, List.all_eq_true]
  intro t ht
  obtain ⟨a, b⟩ := h t ht
  simp [a, b]
theorem argsL_shp {T : List Tok → PR} {r0 : List Tok} (hT : ∀ r t r', r <:+ r0 → T r = .ok t r' → TmOk t ∧ r' <:+ r) (k n : Nat) : ∀ (c : Nat) (acc : List Tr) (r : List Tok) (t : Tr) (r' : List Tok), r <:+ r0 → argsL T k n c acc r = .ok t r' → ∃ ks, t = .node k n (acc ++ ks) ∧ ks.length ≤ c ∧ ∀ q ∈ ks, TmOk q := by
  intro c
  induction c with
  | zero => intro acc r t r' _ h; simp [argsL] at h
  | succ c ih =>
    intro acc r t r' hs h
    simp only [argsL] at h
    cases hr : T r with
    | bad q => rw [hr] at h; simp at h
    | ok u r1 =>
      rw [hr] at h
      obtain ⟨hu, hs1⟩ := hT r u r1 hs hr
      simp only [] at h
      by_cases h1 : stands 41 r1 = true
      · rw [if_pos h1] at h
        cases h
        exact ⟨[u], rfl, by simp, fun q hq => by simp at hq; subst hq; exact hu⟩
      · rw [if_neg h1] at h
        by_cases h2 : c = 0 ∨ stands 44 r1 = false
        · rw [if_pos h2] at h; cases h
        · rw [if_neg h2] at h
          obtain ⟨ks, e, hl, hk⟩ := ih _ _ _ _ ((List.tail_suffix r1).trans (hs1.trans hs)) h
          refine ⟨u :: ks, by rw [e, List.append_assoc]; rfl, by simp; omega, fun q hq => ?_⟩
          rcases List.mem_cons.1 hq with e | e
          · rw [e]; exact hu
          · exact hk q e
theorem argsP_shp {T : List Tok → PR} {r0 : List Tok} (hT : ∀ r t r', r <:+ r0 → T r = .ok t r' → TmOk t ∧ r' <:+ r) {k n : Nat} (hk : k = 2 ∨ k = 3) (hn : n ≤ 99) {r : List Tok} {t : Tr} {r' : List Tok} (hs : r <:+ r0) (h : argsP T k n r = .ok t r') : t.shp = true ∧ t.k = k := by
  have fin : ∀ ks : List Tr, ks.length ≤ 4 → (∀ q ∈ ks, TmOk q) → (Tr.node (k : Int) (n : Int) ks).shp = true := by
    intro ks hl hq
    have ht : kidsTerm (k : Int) = true := by unfold kidsTerm; rw [decide_eq_true_eq]; omega
    rw [shp_eq]
    simp only [Tr.k, Tr.i, Tr.ks]
    rw [ht, shpL_terms ks hq, Bool.and_true]
    unfold kindOk
    rw [if_neg (by omega), if_pos (by omega)]
    simp
    omega
  unfold argsP at h
  by_cases h1 : stands 40 r = true
  · rw [if_pos h1] at h
    obtain ⟨ks, e, hl, hq⟩ := argsL_shp hT k n _ _ _ _ _ ((List.tail_suffix r).trans hs) h
    rw [List.nil_append] at e
    subst e
    exact ⟨fin ks hl hq, rfl⟩
  · rw [if_neg h1] at h
    cases h
    exact ⟨fin [] (by simp) (by simp), rfl⟩
theorem termP_shp : ∀ (f : Nat) (r : List Tok) (t : Tr) (r' : List Tok), TokOk r → termP f r = .ok t r' → TmOk t ∧ r' <:+ r := by
  intro f
  induction f with
  | zero => intro r t r' _ h; simp [termP] at h
  | succ f ih =>
    intro r t r' hok h
    have hw := termP_within (f + 1) r
    rw [h] at hw
    refine ⟨?_, hw.1⟩
    cases r with
    | nil => simp [termP] at h
    | cons x r =>
      have hx := hok x (by simp)
      simp only [termP] at h
      by_cases h1 : x.k = 1
      · rw [if_pos h1] at h
        cases h
        have := hx.1 h1
        constructor
        · rw [shp_eq]
          simp only [Tr.k, Tr.i, Tr.ks]
          simp [kindOk, shpL]
          omega
        · rfl
      · rw [if_neg h1] at h
        by_cases h2 : x.k = 2
        · rw [if_pos h2] at h
          have hr : TokOk r := fun t ht => hok t (by simp [ht])
          obtain ⟨a, b⟩ := argsP_shp (r0 := r) (fun q t q' hq e => ih q t q' (hr.suf hq) e) (.inl rfl) (hx.2 (.inl h2)) (List.suffix_refl _) h
          exact ⟨a, by rw [b]; rfl⟩
        · rw [if_neg h2] at h; cases h
theorem shp_two (k : Int) (a b : Tr) (hk : k = 6 ∨ k = 8 ∨ k = 9) (ha : FmOk a) (hb : FmOk b) : FmOk (.node k 0 [a, b]) := by
  have hl : shpL false [a, b] = true := shpL_forms _ (by simp [ha, hb])
  have ht : kidsTerm k = false := by unfold kidsTerm; rw [decide_eq_false_iff_not]; omega
  constructor
  · rw [shp_eq]
    simp only [Tr.k, Tr.i, Tr.ks]
    rw [ht, hl, Bool.and_true]
    unfold kindOk
    rw [if_neg (by omega), if_neg (by omega), if_neg (by omega), if_neg (by omega), if_pos (by omega)]
    simp
  · show termB k = false
    unfold termB
    simp
    omega
theorem shp_quant (k n : Nat) (a : Tr) (hk : k = 7 ∨ k = 10) (hn : n ≤ 63) (ha : FmOk a) : FmOk (.node k n [a]) := by
  have hl : shpL false [a] = true := shpL_forms _ (by simp [ha])
  have ht : kidsTerm (k : Int) = false := by unfold kidsTerm; rw [decide_eq_false_iff_not]; omega
  constructor
  · rw [shp_eq]
    simp only [Tr.k, Tr.i, Tr.ks]
    rw [ht, hl, Bool.and_true]
    unfold kindOk
    rw [if_neg (by omega), if_neg (by omega), if_neg (by omega), if_neg (by omega), if_neg (by omega), if_pos (by omega)]
    simp
    omega
  · show termB (k : Int) = false
    unfold termB
    simp
    omega
theorem formP_shp : ∀ (f : Nat) (r : List Tok) (t : Tr) (r' : List Tok), TokOk r → formP f r = .ok t r' → FmOk t ∧ r' <:+ r := by
  intro f
  induction f with
  | zero => intro r t r' _ h; simp [formP] at h
  | succ f ih =>
    intro r t r' hok h
    have hw := formP_within (f + 1) r
    rw [h] at hw
    refine ⟨?_, hw.1⟩
    cases r with
    | nil => simp [formP] at h
    | cons x r =>
      have hx := hok x (by simp)
      have hr : TokOk r := fun t ht => hok t (by simp [ht])
      have quant : ∀ k : Nat, (k = 7 ∨ k = 10) → quantP (formP f) k r = .ok t r' → FmOk t := by
        intro k hk hq
        cases r with
        | nil => simp [quantP] at hq
        | cons y r1 =>
          simp only [quantP] at hq
          by_cases h1 : y.k = 1
          · rw [if_pos h1] at hq
            cases hr2 : formP f r1 with
            | bad q => rw [hr2] at hq; cases hq
            | ok a r2 =>
              rw [hr2] at hq
              cases hq
              exact shp_quant k y.n a hk ((hr y (by simp)).1 h1) (ih _ _ _ (hr.suf (List.suffix_cons y r1)) hr2).1
          · rw [if_neg h1] at hq; cases hq
      simp only [formP] at h
      by_cases h3 : x.k = 3
      · rw [if_pos h3] at h
        obtain ⟨a, b⟩ := argsP_shp (r0 := r) (fun q t q' hq e => termP_shp f q t q' (hr.suf hq) e) (.inr rfl) (hx.2 (.inr h3)) (List.suffix_refl _) h
        exact ⟨a, by rw [b]; rfl⟩
      · rw [if_neg h3] at h
        by_cases h12 : x.k = 1 ∨ x.k = 2
        · rw [if_pos h12] at h
          unfold eqP at h
          cases hr1 : termP f (x :: r) with
          | bad q => rw [hr1] at h; cases h
          | ok a r1 =>
            rw [hr1] at h
            obtain ⟨e1, s1⟩ := termP_shp f _ _ _ hok hr1
            simp only [] at h
            by_cases he : stands 61 r1 = true
            · rw [if_pos he] at h
              cases hr2 : termP f r1.tail with
              | bad q => rw [hr2] at h; cases h
              | ok b r3 =>
                rw [hr2] at h
                cases h
                obtain ⟨e2, _⟩ := termP_shp f _ _ _ (hok.suf ((List.tail_suffix r1).trans s1)) hr2
                have hl : shpL true [a, b] = true := shpL_terms _ (by simp [e1, e2])
                constructor
                · rw [shp_eq]
                  simp only [Tr.k, Tr.i, Tr.ks]
                  rw [show kidsTerm 4 = true from rfl, hl]
                  rfl
                · rfl
            · rw [if_neg he] at h; cases h
        · rw [if_neg h12] at h
          by_cases h4 : x.k = 4
          · rw [if_pos h4] at h
            by_cases e1 : x.n = 33
            · rw [if_pos e1] at h
              unfold notP at h
              cases hr1 : formP f r with
              | bad q => rw [hr1] at h; cases h
              | ok a r1 =>
                rw [hr1] at h
                cases h
                have ha := (ih _ _ _ hr hr1).1
                have hl : shpL false [a] = true := shpL_forms _ (by simp [ha])
                constructor
                · rw [shp_eq]
                  simp only [Tr.k, Tr.i, Tr.ks]
                  rw [show kidsTerm 5 = false from rfl, hl]
                  rfl
                · rfl
            · rw [if_neg e1] at h
              by_cases e2 : x.n = 64
              · rw [if_pos e2] at h; exact quant 7 (.inl rfl) h
              · rw [if_neg e2] at h
                by_cases e3 : x.n = 63
                · rw [if_pos e3] at h; exact quant 10 (.inr rfl) h
                · rw [if_neg e3] at h
                  by_cases e4 : x.n = 40
                  · rw [if_pos e4] at h
                    unfold pairP at h
                    cases hr1 : formP f r with
                    | bad q => rw [hr1] at h; cases h
                    | ok a r1 =>
                      rw [hr1] at h
                      obtain ⟨ha, s1⟩ := ih _ _ _ hr hr1
                      simp only [] at h
                      by_cases hj : jointN r1 = 0
                      · rw [if_pos hj] at h; cases h
                      · rw [if_neg hj] at h
                        cases hr2 : formP f r1.tail with
                        | bad q => rw [hr2] at h; cases h
                        | ok b r3 =>
                          rw [hr2] at h
                          obtain ⟨hb, _⟩ := ih _ _ _ (hr.suf ((List.tail_suffix r1).trans s1)) hr2
                          simp only [] at h
                          by_cases hc : stands 41 r3 = true
                          · rw [if_pos hc] at h
                            cases h
                            refine shp_two _ a b ?_ ha hb
                            unfold jointN at hj ⊢
                            split
                            · left; rfl
                            · split
                              · right; left; rfl
                              · split
                                · right; right; rfl
                                · simp_all
                          · rw [if_neg hc] at h; cases h
                  · rw [if_neg e4] at h; cases h
          · rw [if_neg h4] at h; cases h
theorem right_exc {t : Tr} (h : t.shp = true) : rightN t = excN t.sz (1 + dpL t.ks) := by
  unfold rightN excN
  rw [dp_eq t, h]
  rfl
end Go.Proofs.YtgnfbhemkombaaaDoor
namespace Go.Proofs.YtgnfbhemkombaaaDoor
open Go.RowKit
set_option linter.unusedVariables false
set_option linter.unusedSimpArgs false
theorem fit_of_shp (t : Tr) : t.shp = true → t.fit := by
  induction t using Tr.ind with
  | h t ih =>
    intro h
    have hk := kind_of_shp t h
    rw [shp_eq, Bool.and_eq_true, shpL_all, List.all_eq_true] at h
    refine (fit_eq t).2 ⟨by unfold Cap; omega, fun q hq => ih q hq ?_⟩
    have := h.2 q hq
    simp at this
    exact this.2
theorem set3e_far (W : World) {b : Nat} (x y z : Value) {k : Nat} (h2 : k ≠ b) : (((W.setCell ⟨b, 0, none⟩ x).setCell ⟨b, 1, none⟩ y).setCell ⟨b, 2, none⟩ z).drew.heap[k]? = W.heap[k]? := (drew_far _ k).trans (set3_other _ _ _ _ _ _ h2)
/-- what is answered of a tree that was read -/
def rightV (t : Tr) (B : Option Addr) (d : Nat) : Array Value := if rightN t = 0 then #[.agg #[.int .i64 t.k, .int .i64 t.i, .slice B t.ks.length d], .int .i64 0, .int .i64 0] else #[.agg #[.int .i64 0, .int .i64 0, .slice none 0 0], .int .i64 (rightN t : Int), .int .i64 0]
theorem rightV_ok {t : Tr} (h : rightN t = 0) (B : Option Addr) (d : Nat) : rightV t B d = #[.agg #[.int .i64 t.k, .int .i64 t.i, .slice B t.ks.length d], .int .i64 0, .int .i64 0] := by unfold rightV; rw [if_pos h]
theorem rightV_bad {t : Tr} (h : ¬ rightN t = 0) (B : Option Addr) (d : Nat) : rightV t B d = #[.agg #[.int .i64 0, .int .i64 0, .slice none 0 0], .int .i64 (rightN t : Int), .int .i64 0] := by unfold rightV; rw [if_neg h]
section
variable {A : Option Addr} {c : Nat} {l : List Tok} {p : Nat}
set_option maxHeartbeats 2000000 in
set_option maxRecDepth 100000 in
theorem rwhole_tok (s : ByteArray) (ok : Bool) (x y : Int) (B : Option Addr) (n d : Nat) (t : Tok) (r : List Tok) (w : World) (h : IsToks w A c l) (hp : Pos l (t :: r) p) (hl : l.length ≤ 8000) :
    Calls Tryd.prog 33 #[.string s, .slice A l.length c, .agg #[.bool ok, .int .i64 x, .int .i64 y, .slice B n d, .int .i64 (p : Int)]] w fun e w' => e = .returned (.tuple #[.agg #[.int .i64 0, .int .i64 0, .slice none 0 0], .int .i64 32, .int .i64 (t.p : Int)]) ∧ Below w.heap.size w w' := by
  have hpt := hp.lt
  have hpi : (p : Int) < (l.length : Int) := by omega
  have hb0 : Below w.heap.size w ((w.alloc (.cells #[.bool ok, .int .i64 x, .int .i64 y, .slice B n d, .int .i64 (p : Int)] 62)).alloc (.cells #[.int .i64 0, .int .i64 0, .slice none 0 0] 24)) := ((Below.refl _ _).alloc (Nat.le_refl _) _).alloc (by simp) _
  obtain ⟨b, rfl, hlc, hlt0, _, _, _⟩ := h.at hp
  obtain ⟨b', e', _, hlt, _, _, d2⟩ := (h.keep hb0).at hp
  cases e'
  have e3 := Box3.new (w.alloc (.cells #[.bool ok, .int .i64 x, .int .i64 y, .slice B n d, .int .i64 (p : Int)] 62)) (.int .i64 0) (.int .i64 0) (.slice none 0 0)
  rw [World.size_alloc] at e3
  have g5 := (Box5.new w (.bool ok) (.int .i64 x) (.int .i64 y) (.slice B n d) (.int .i64 (p : Int))).keep ((Below.refl (w.heap.size + 1) _).alloc (by simp) (.cells #[.int .i64 0, .int .i64 0, .slice none 0 0] 24)) (by omega)
  have HB := Lib.hid hb0
  clear h hp hb0
  cases ok
  all_goals
    go_enter Tryd.func33, Tryd.ntmps33
    go_wp2_with fail
    generalize ((w.alloc (.cells #[.bool _, .int .i64 x, .int .i64 y, .slice B n d, .int .i64 (p : Int)] 62)).alloc (.cells #[.int .i64 0, .int .i64 0, .slice none 0 0] 24)) = W at d2 e3 g5 HB hlt ⊢
    have g4 := g5.cells.2.2.2.2
    obtain ⟨y0, y1, y2⟩ := e3.cells
    have f0 := e3.frozen 0
    have f1 := e3.frozen 1
    have f2 := e3.frozen 2
    have SK := Lib.hid (show ∀ X : World, (∀ k, k ≠ w.heap.size + 1 → X.heap[k]? = W.heap[k]?) → X.cell? ⟨w.heap.size, 4, none⟩ = some (.int .i64 (p : Int)) ∧ X.cell? ⟨b, p * 3 + 2, none⟩ = some (.int .i64 (t.p : Int)) from fun X hX =>
      ⟨(cell_far (hX _ (by omega)) _).trans g4, (cell_far (hX b (by omega)) _).trans d2⟩)
    clear g5 e3 d2 g4
    go_region_held3 (fun w' => w'.cell? ⟨w.heap.size, 4, none⟩ = some (.int .i64 (p : Int)) ∧ w'.cell? ⟨b, p * 3 + 2, none⟩ = some (.int .i64 (t.p : Int)))
      (first | with_reducible exact SK.out _ (fun k h1 => set3e_far W _ _ _ h1) | with_reducible exact SK.out _ (fun k _ => drew_far W k)) (fail)
    go_wp2_with fail
    refine bodyPost_ret (v := .tuple #[.agg #[.int .i64 0, .int .i64 0, .slice none 0 0], .int .i64 32, .int .i64 (t.p : Int)]) (by simp [results, Tryd.results33, go_sem, y0, y1, y2]) rfl ?_
    exact ⟨rfl, (below_set3 HB.out _ _ _ (Nat.le_succ _)).drew⟩
set_option maxHeartbeats 2000000 in
set_option maxRecDepth 100000 in
theorem rwhole_end (s : ByteArray) (x y : Int) (B : Option Addr) (n d : Nat) (w : World) (hl : l.length ≤ 8000) (hs : s.size ≤ maxLen) :
    Calls Tryd.prog 33 #[.string s, .slice A l.length c, .agg #[.bool false, .int .i64 x, .int .i64 y, .slice B n d, .int .i64 (l.length : Int)]] w fun e w' => e = .returned (.tuple #[.agg #[.int .i64 0, .int .i64 0, .slice none 0 0], .int .i64 32, .int .i64 (s.size : Int)]) ∧ Below w.heap.size w w' := by
  have hpi : ¬ (l.length : Int) < (l.length : Int) := by omega
  have hb0 : Below w.heap.size w ((w.alloc (.cells #[.bool false, .int .i64 x, .int .i64 y, .slice B n d, .int .i64 (l.length : Int)] 62)).alloc (.cells #[.int .i64 0, .int .i64 0, .slice none 0 0] 24)) := ((Below.refl _ _).alloc (Nat.le_refl _) _).alloc (by simp) _
  have e3 := Box3.new (w.alloc (.cells #[.bool false, .int .i64 x, .int .i64 y, .slice B n d, .int .i64 (l.length : Int)] 62)) (.int .i64 0) (.int .i64 0) (.slice none 0 0)
  rw [World.size_alloc] at e3
  have HB := Lib.hid hb0
  obtain ⟨y0, y1, y2⟩ := e3.cells
  clear hb0 e3
  go_enter Tryd.func33, Tryd.ntmps33
  go_wp2_with fail
  refine bodyPost_ret (v := .tuple #[.agg #[.int .i64 0, .int .i64 0, .slice none 0 0], .int .i64 32, .int .i64 (s.size : Int)]) (by simp [results, Tryd.results33, go_sem, y0, y1, y2]) rfl ?_
  exact ⟨rfl, HB.out⟩
set_option maxHeartbeats 2000000 in
set_option maxRecDepth 100000 in
theorem rwhole_right (s : ByteArray) (t : Tr) (B : Option Addr) (d : Nat) (w : World) (hl : l.length ≤ 8000) (ht : IsT w w.heap.size t B d) :
    Calls Tryd.prog 33 #[.string s, .slice A l.length c, .agg #[.bool true, .int .i64 t.k, .int .i64 t.i, .slice B t.ks.length d, .int .i64 (l.length : Int)]] w fun e w' => Below w.heap.size w w' ∧ e = .returned (.tuple (rightV t B d)) := by
  have hpi : ¬ (l.length : Int) < (l.length : Int) := by omega
  have hb0 : Below w.heap.size w ((w.alloc (.cells #[.bool true, .int .i64 t.k, .int .i64 t.i, .slice B t.ks.length d, .int .i64 (l.length : Int)] 62)).alloc (.cells #[.int .i64 0, .int .i64 0, .slice none 0 0] 24)) := ((Below.refl _ _).alloc (Nat.le_refl _) _).alloc (by simp) _
  have e3 := Box3.new (w.alloc (.cells #[.bool true, .int .i64 t.k, .int .i64 t.i, .slice B t.ks.length d, .int .i64 (l.length : Int)] 62)) (.int .i64 0) (.int .i64 0) (.slice none 0 0)
  rw [World.size_alloc] at e3
  have g5 := (Box5.new w (.bool true) (.int .i64 t.k) (.int .i64 t.i) (.slice B t.ks.length d) (.int .i64 (l.length : Int))).keep ((Below.refl (w.heap.size + 1) _).alloc (by simp) (.cells #[.int .i64 0, .int .i64 0, .slice none 0 0] 24)) (by omega)
  have HT := Lib.hid (ht.keep hb0 hb0.size)
  have HB := Lib.hid hb0
  have E3 := Lib.hid e3
  have G5 := Lib.hid g5
  have hsz : ((w.alloc (.cells #[.bool true, .int .i64 t.k, .int .i64 t.i, .slice B t.ks.length d, .int .i64 (l.length : Int)] 62)).alloc (.cells #[.int .i64 0, .int .i64 0, .slice none 0 0] 24)).heap.size = w.heap.size + 2 := by simp
  clear hb0 e3 g5 ht
  go_enter Tryd.func33, Tryd.ntmps33
  go_wp2_with fail
  generalize ((w.alloc (.cells #[.bool true, .int .i64 t.k, .int .i64 t.i, .slice B t.ks.length d, .int .i64 (l.length : Int)] 62)).alloc (.cells #[.int .i64 0, .int .i64 0, .slice none 0 0] 24)) = W at E3 G5 HB HT hsz ⊢
  refine (rright_any t B d W HT.out).mono ?_
  rintro e w1 ⟨rfl, hb1⟩
  have hz1 := hb1.size
  have HT1 := Lib.hid (HT.out.keep hb1 hb1.size)
  have HB1 := Lib.hid (HB.out.trans (hb1.mono HB.out.size))
  have E1 := Lib.hid (E3.out.keep hb1 (by omega))
  have G1 := Lib.hid (G5.out.keep hb1 (by omega))
  clear hb1 HT HB E3 G5
  by_cases hr : rightN t = 0
  · have h0 : ((rightN t : Int) != 0) = false := by simp [hr]
    have F := Lib.hid (rightV_ok hr B d)
    obtain ⟨g0, g1, g2, g3, g4⟩ := G1.out.cells
    obtain ⟨y0, y1, y2⟩ := E1.out.cells
    have f0 := E1.out.frozen 0
    have f1 := E1.out.frozen 1
    have f2 := E1.out.frozen 2
    clear hr
    go_wp2_with fail
    refine bodyPost_ret (v := .tuple #[.agg #[.int .i64 t.k, .int .i64 t.i, .slice B t.ks.length d], .int .i64 0, .int .i64 0]) (by simp [results, Tryd.results33, go_sem, y0, y1, y2]) rfl ?_
    refine ⟨below_set3 HB1.out _ _ _ (Nat.le_succ _), ?_⟩
    rw [F.out]
  · have h0 : ((rightN t : Int) != 0) = true := by rw [bne_iff_ne]; omega
    have F := Lib.hid (rightV_bad hr B d)
    obtain ⟨g0, g1, g2, g3, g4⟩ := G1.out.cells
    clear hr
    go_wp2_with fail
    refine (rright_any t B d w1 HT1.out).mono ?_
    rintro e w2 ⟨rfl, hb2⟩
    have HB2 := Lib.hid (HB1.out.trans (hb2.mono HB1.out.size))
    have E2 := Lib.hid (E1.out.keep hb2 E1.out.lt)
    clear hb2
    obtain ⟨y0, y1, y2⟩ := E2.out.cells
    have f0 := E2.out.frozen 0
    have f1 := E2.out.frozen 1
    have f2 := E2.out.frozen 2
    go_wp2_with fail
    refine bodyPost_ret (v := .tuple #[.agg #[.int .i64 0, .int .i64 0, .slice none 0 0], .int .i64 (rightN t : Int), .int .i64 0]) (by simp [results, Tryd.results33, go_sem, y0, y1, y2]) rfl ?_
    refine ⟨below_set3 HB2.out _ _ _ (Nat.le_succ _), ?_⟩
    rw [F.out]
end
end Go.Proofs.YtgnfbhemkombaaaDoor
namespace Go.Proofs.YtgnfbhemkombaaaDoor
open Go.RowKit
set_option linter.unusedVariables false
set_option linter.unusedSimpArgs false
/-- what whole makes of what was read -/
theorem rwhole_any (s : ByteArray) (l : List Tok) (A : Option Addr) (c : Nat) (P : List Tok → PR) (w w0 : World) (e : Ending) (hs : s.size ≤ maxLen) (hl : l.length ≤ 8000) (hshp : ∀ t r, P l = .ok t r → t.shp = true) (h : IsToks w A c l) (hb : Below w0.heap.size w0 w) (hG : GotP w0 l (P l) e w) :
    ∃ v, e = .returned v ∧ Calls Tryd.prog 33 #[.string s, .slice A l.length c, v] w fun e' w' => Below w.heap.size w w' ∧ ExprPost w0 (wholeR P s.size (.ok l)) e' w' := by
  obtain ⟨hb1, hG⟩ := hG
  cases hP : P l with
  | bad r =>
    rw [hP] at hG
    obtain ⟨p2, hp2, rfl⟩ := hG
    have R : wholeR P s.size (.ok l) = .bad 32 (placeN s.size r) := by simp only [wholeR, hP]
    refine ⟨_, rfl, ?_⟩
    rw [R]
    cases r with
    | nil =>
      have := hp2.nil
      subst this
      refine (rwhole_end s 0 0 none 0 0 w hl hs).mono ?_
      rintro e' w' ⟨rfl, hb'⟩
      exact ⟨hb', hb.trans (hb'.mono hb.size), rfl⟩
    | cons t r =>
      refine (rwhole_tok s false 0 0 none 0 0 t r w h hp2 hl).mono ?_
      rintro e' w' ⟨rfl, hb'⟩
      exact ⟨hb', hb.trans (hb'.mono hb.size), rfl⟩
  | ok t r =>
    rw [hP] at hG
    obtain ⟨A2, c2, p2, hp2, rfl, ho⟩ := hG
    refine ⟨_, rfl, ?_⟩
    cases r with
    | cons y r =>
      have R : wholeR P s.size (.ok l) = .bad 32 y.p := by simp only [wholeR, hP]; rw [if_neg (by simp)]; rfl
      rw [R]
      refine (rwhole_tok s true t.k t.i A2 t.ks.length c2 y r w h hp2 hl).mono ?_
      rintro e' w' ⟨rfl, hb'⟩
      exact ⟨hb', hb.trans (hb'.mono hb.size), rfl⟩
    | nil =>
      have := hp2.nil
      subst this
      have hsh := hshp t [] hP
      have hx := right_exc hsh
      refine (rwhole_right s t A2 c2 w hl (ho.isT t (Nat.le_refl _) (fit_of_shp t hsh))).mono ?_
      rintro e' w' ⟨hb', rfl⟩
      refine ⟨hb', hb.trans (hb'.mono hb.size), ?_⟩
      by_cases h0 : rightN t = 0
      · have R : wholeR P s.size (.ok l) = .ok t := by simp only [wholeR, hP]; rw [if_pos trivial, if_pos (by rw [← hx]; exact h0)]
        rw [R, rightV_ok h0]
        exact ⟨A2, c2, rfl, (OwnT.same _ (fun k _ k2 => hb'.block k k2) ho).widen hb'.size⟩
      · have R : wholeR P s.size (.ok l) = .bad (rightN t) 0 := by simp only [wholeR, hP]; rw [if_pos trivial, if_neg (by rw [← hx]; exact h0), hx]
        rw [R, rightV_bad h0]
        rfl
theorem lexN_bad : ∀ (k : Nat) (i : Nat) (b : List Nat) (c j : Nat), b.length ≤ k → lexN i b = .bad c j → c ≠ 0 := by
  intro k
  induction k with
  | zero =>
    intro i b c j hk h
    have : b = [] := List.length_eq_zero_iff.1 (by omega)
    subst this
    rw [lexN_nil] at h
    cases h
  | succ k ih =>
    intro i b c j hk h
    cases b with
    | nil => rw [lexN_nil] at h; cases h
    | cons x r =>
      simp only [List.length_cons] at hk
      cases hs : stepN x r with
      | blank => rw [lexN_blank hs] at h; exact ih _ _ _ _ (by omega) h
      | err e =>
        rw [lexN_err hs] at h
        cases h
        unfold stepN at hs
        split at hs
        · cases hs
        · split at hs
          · cases hs
          · split at hs
            · cases hs; omega
            · split at hs
              · cases hs; omega
              · cases hs
      | tok kk n z =>
        rw [lexN_tok hs] at h
        cases hq : lexN (i + 1 + z) (r.drop z) with
        | bad a b => rw [hq] at h; cases h; exact ih _ _ _ _ (by rw [List.length_drop]; omega) hq
        | ok l' => rw [hq] at h; cases h
theorem lexAll_bad {b : List Nat} {c j : Nat} (h : lexAll b = .bad c j) : c ≠ 0 := by
  unfold lexAll at h
  by_cases hb : 8000 < b.length
  · rw [if_pos hb] at h; cases h; omega
  · rw [if_neg hb] at h
    exact lexN_bad _ _ _ _ _ (Nat.le_refl _) h
set_option maxHeartbeats 2000000 in
set_option maxRecDepth 100000 in
theorem rformula_any (s : ByteArray) (w : World) (hs : s.size ≤ maxLen) :
    Calls Tryd.prog 14 #[.string s] w (ExprPost w (wholeR (formP 16100) s.size (lexAll (bytesN s)))) := by
  have hb0 : Below w.heap.size w (w.alloc (.cells #[.int .i64 0, .int .i64 0, .slice none 0 0] 24)) := (Below.refl _ _).alloc (Nat.le_refl _) _
  have E0 := Lib.hid (Box3.new w (.int .i64 0) (.int .i64 0) (.slice none 0 0))
  have TC := Lib.hid (fun W => rtokens_any s W hs)
  have HB0 := Lib.hid hb0
  clear hb0
  cases hL : lexAll (bytesN s) with
  | bad c i =>
    rw [hL] at TC
    have hc := lexAll_bad hL
    have hc' : ((c : Int) != 0) = true := by rw [bne_iff_ne]; omega
    go_enter Tryd.func14, Tryd.ntmps14
    go_wp2_with fail
    refine (TC.out _).mono ?_
    rintro e w1 ⟨hb1, rfl⟩
    have b3 := E0.out.keep hb1 (by simp)
    obtain ⟨y0, y1, y2⟩ := b3.cells
    have f0 := b3.frozen 0
    have f1 := b3.frozen 1
    have f2 := b3.frozen 2
    have BB := Lib.hid (HB0.out.trans (hb1.mono HB0.out.size))
    clear b3 hb1
    go_wp2_with fail
    refine bodyPost_ret (v := .tuple #[.agg #[.int .i64 0, .int .i64 0, .slice none 0 0], .int .i64 (c : Int), .int .i64 (i : Int)]) (by simp [results, Tryd.results14, go_sem, y0, y1, y2]) rfl ?_
    exact ⟨below_set3 BB.out _ _ _ (Nat.le_refl _), rfl⟩
  | ok l =>
    have hl := lexAll_len hL
    have hok := lexAll_ok hL
    rw [hL] at TC
    go_enter Tryd.func14, Tryd.ntmps14
    go_wp2_with fail
    refine (TC.out _).mono ?_
    rintro e w1 ⟨hb1, v1, rfl, ho1⟩
    obtain ⟨A1, c1, rfl, i1⟩ := tok_rows ho1
    have I1 := Lib.hid (show IsToks w1 A1 c1 l from i1)
    have B1 := Lib.hid (E0.out.keep hb1 (by simp))
    have BB := Lib.hid (HB0.out.trans (hb1.mono HB0.out.size))
    have hz1 : w.heap.size < w1.heap.size := B1.out.lt
    have FC := Lib.hid (rform_any (A := A1) (c := c1) hl 16100 l 0 w1 (by omega) (Pos.start l) I1.out)
    clear hb1 ho1 i1
    go_wp2_with fail
    refine FC.out.mono ?_
    intro e w2 hG
    have hb2 := hG.1
    have hz2 := hb2.size
    obtain ⟨v, rfl, hW⟩ := rwhole_any s l A1 c1 (formP 16100) w2 w1 e hs hl (fun t r e => (formP_shp 16100 l t r hok e).1.1) (I1.out.keep hb2) hb2 hG
    have HW := Lib.hid hW
    have B2 := Lib.hid (B1.out.keep hb2 hz1)
    clear hG hW
    go_wp2_with fail
    refine HW.out.mono ?_
    rintro e w3 ⟨hb3, hE⟩
    have b3 := B2.out.keep hb3 B2.out.lt
    obtain ⟨y0, y1, y2⟩ := b3.cells
    have f0 := b3.frozen 0
    have f1 := b3.frozen 1
    have f2 := b3.frozen 2
    have hz3 := hb3.size
    have BX := Lib.hid (BB.out.trans (hE.1.mono BB.out.size))
    clear b3 hb3 hb2
    cases hR : wholeR (formP 16100) s.size (.ok l) with
    | bad c i =>
      rw [hR] at hE
      obtain ⟨_, rfl⟩ := hE
      go_wp2_with fail
      refine bodyPost_ret (v := .tuple #[.agg #[.int .i64 0, .int .i64 0, .slice none 0 0], .int .i64 (c : Int), .int .i64 (i : Int)]) (by simp [results, Tryd.results14, go_sem, y0, y1, y2]) rfl ?_
      rw [hR]
      exact ⟨below_set3 BX.out _ _ _ (Nat.le_refl _), rfl⟩
    | ok t =>
      rw [hR] at hE
      obtain ⟨_, A3, c3, rfl, ho⟩ := hE
      go_wp2_with fail
      refine bodyPost_ret (v := .tuple #[.agg #[.int .i64 t.k, .int .i64 t.i, .slice A3 t.ks.length c3], .int .i64 0, .int .i64 0]) (by simp [results, Tryd.results14, go_sem, y0, y1, y2]) rfl ?_
      rw [hR]
      exact ⟨below_set3 BX.out _ _ _ (Nat.le_refl _), A3, c3, rfl, ((OwnT.same _ (fun k k1 k2 => set3_other _ _ _ _ _ _ (by omega)) ho).widen (by rw [set3_size]; exact Nat.le_refl _)).lower (by omega)⟩
end Go.Proofs.YtgnfbhemkombaaaDoor
namespace Go.Proofs.YtgnfbhemkombaaaDoor
open Go.RowKit Go.Sort
theorem cmp_head {a b : Tr} (h : headC a b ≠ 0) : cmpT a b = headC a b := by rw [cmpT_eq, if_pos h]
theorem cmp_kids {a b : Tr} (h : headC a b = 0) : cmpT a b = cmpL a.ks b.ks := by rw [cmpT_eq, if_neg (by simp [h])]
set_option maxHeartbeats 2000000 in
theorem order_any : ∀ (N : Nat) (a b : Tr) (A A' : Option Addr) (c c' : Nat) (w : World), a.sz ≤ N → IsT w w.heap.size a A c → IsT w w.heap.size b A' c' →
    Calls Tryd.prog 28 #[.agg #[.int .i64 a.k, .int .i64 a.i, .slice A a.ks.length c], .agg #[.int .i64 b.k, .int .i64 b.i, .slice A' b.ks.length c']] w fun e w' => e = .returned (.int .i64 (cmpT a b)) ∧ Below w.heap.size w w' := by
  intro N
  induction N with
  | zero => intro t _ _ _ _ _ w h; have := sz_pos t; omega
  | succ N ih =>
    intro a b A A' c c' w hN ha hb
    have IH := Lib.hid ih
    clear ih
    have hz0 : Below w.heap.size w (w.alloc (.cells #[.int .i64 a.k, .int .i64 a.i, .slice A a.ks.length c] 24)) := (Below.refl _ _).alloc (Nat.le_refl _) _
    have hz1 : Below w.heap.size w ((w.alloc (.cells #[.int .i64 a.k, .int .i64 a.i, .slice A a.ks.length c] 24)).alloc (.cells #[.int .i64 b.k, .int .i64 b.i, .slice A' b.ks.length c'] 24)) := hz0.alloc hz0.size _
    have HA := Lib.hid ha
    have HB := Lib.hid hb
    have la := ha.len
    have lb := hb.len
    clear ha hb
    obtain ⟨x1, h1⟩ : ∃ x, x = byI a.k b.k := ⟨_, rfl⟩
    obtain ⟨x2, h2⟩ : ∃ x, x = byI a.i b.i := ⟨_, rfl⟩
    obtain ⟨x3, h3⟩ : ∃ x, x = byI a.ks.length b.ks.length := ⟨_, rfl⟩
    have X1 := Lib.hid h1
    have X2 := Lib.hid h2
    have X3 := Lib.hid h3
    clear h1 h2 h3
    by_cases e1 : x1 = 0
    · subst e1
      by_cases e2 : x2 = 0
      · subst e2
        by_cases e3 : x3 = 0
        · subst e3
          have H := Lib.hid (show headC a b = 0 from headC_zero.2 ⟨byI_zero.1 X1.out.symm, byI_zero.1 X2.out.symm, by have := byI_zero.1 X3.out.symm; omega⟩)
          have hl : a.ks.length = b.ks.length := by have := byI_zero.1 X3.out.symm; omega
          have HL := Lib.hid hl
          go_enter Tryd.func28, Tryd.ntmps28
          clear hl
          go_wp2_with (go_at_call 56; refine (by_any _ _ _).mono ?_; rintro e w' ⟨rfl, rfl⟩; first | rw [← X1.out] | rw [← X2.out] | rw [← X3.out])
          go_loopw [5, 6] (fun s i wr => ∃ m : Nat, m ≤ a.ks.length ∧ i = .int .i64 m ∧ (∃ x : Int, x = cmpL (a.ks.take m) (b.ks.take m) ∧ s = .int .i64 x) ∧ Below (w.heap.size + 2) ((w.alloc (.cells #[.int .i64 a.k, .int .i64 a.i, .slice A a.ks.length c] 24)).alloc (.cells #[.int .i64 b.k, .int .i64 b.i, .slice A' b.ks.length c'] 24)) wr) (fun _ i _ => a.ks.length - (intOf i).toNat)
          case atStart => exact ⟨0, Nat.zero_le _, rfl, ⟨0, by simp [cmpL], rfl⟩, Below.refl _ _⟩
          case round =>
            obtain ⟨m, hm', rfl, ⟨x, hx, rfl⟩, hbr⟩ := hrel
            have HX := Lib.hid hx
            clear hx
            have hbw : Below w.heap.size w wr := hz1.trans (hbr.mono (by omega))
            have hsz := hbr.size
            simp at hsz
            obtain ⟨⟨f0, f1, f2⟩, g0, g1, g2⟩ := two_boxes hbr
            by_cases hx0 : x = 0
            · subst hx0
              by_cases hlt : m < a.ks.length
              · have hlt2 : m < b.ks.length := by have := HL.out; omega
                obtain ⟨b1, o1, A1, c1, rfl, hlt1, p0, p1, p2, hk1⟩ := HA.out.kid m hlt
                obtain ⟨b2, o2, A2, c2, rfl, hlt3, r0, r1, r2, hk2⟩ := HB.out.kid m hlt2
                have S := Lib.hid (cmpL_take a.ks b.ks m hlt hlt2 HX.out.symm)
                have kz := kid_sz a m hlt
                obtain ⟨q1, hq1⟩ : ∃ q, q = a.ks[m] := ⟨_, rfl⟩
                obtain ⟨q2, hq2⟩ : ∃ q, q = b.ks[m] := ⟨_, rfl⟩
                rw [← hq1] at p0 p1 p2 hk1 kz S
                rw [← hq2] at r0 r1 r2 hk2 S
                clear hq1 hq2
                have u0 := (hbw.cell hlt1).trans p0
                have u1 := (hbw.cell hlt1).trans p1
                have u2 := (hbw.cell hlt1).trans p2
                have v0 := (hbw.cell hlt3).trans r0
                have v1 := (hbw.cell hlt3).trans r1
                have v2 := (hbw.cell hlt3).trans r2
                have HK1 := Lib.hid (hk1.keep hbw hbw.size)
                have HK2 := Lib.hid (hk2.keep hbw hbw.size)
                clear p0 p1 p2 r0 r1 r2 hk1 hk2
                go_wp2_with fail
                have f2' := cell_regrown f2
                have g2' := cell_regrown g2
                have u0' := cell_regrown u0
                have u1' := cell_regrown u1
                have u2' := cell_regrown u2
                have v0' := cell_regrown v0
                have v1' := cell_regrown v1
                have v2' := cell_regrown v2
                have cQ : ∀ d os, Calls Tryd.prog 28 #[.agg #[.int .i64 q1.k, .int .i64 q1.i, .slice A1 q1.ks.length c1], .agg #[.int .i64 q2.k, .int .i64 q2.i, .slice A2 q2.ks.length c2]] (grow (redrawn wr d) os) fun e w'' => e = .returned (.int .i64 (cmpT q1 q2)) ∧ ∃ p : Regrown, w'' = grow (redrawn wr p.d) p.os :=
                  fun d os => Calls.regrown_of (IH.out q1 q2 A1 A2 c1 c2 _ (by omega) (HK1.out.keep (below_regrown wr d os) (below_regrown wr d os).size) (HK2.out.keep (below_regrown wr d os) (below_regrown wr d os).size))
                have CQ := Lib.hid cQ
                clear cQ f0 f1 f2 g0 g1 g2 u0 u1 u2 v0 v1 v2
                have hi1 : (0 : Int) ≤ (m : Int) := by omega
                have hi2 : (m : Int) < (a.ks.length : Int) := by omega
                have hi3 : (m : Int) < (b.ks.length : Int) := by omega
                refine wp_region_quiet_below (by kernel_rfl) (by kernel_rfl) ?_
                repeat (go_big_quiet_step (exact CQ.out _ _))
                refine wpQuiet_nil ?_
                intro w5 hw'
                obtain ⟨⟨dq, osq⟩, hw''⟩ := hw'
                have hb5 := below_regrown wr dq osq
                rw [← hw''] at hb5
                clear hw'' f2' g2' u0' u1' u2' v0' v1' v2'
                go_wp2_with fail
                go_roundw
                case rel => exact ⟨m + 1, by omega, by go_num, ⟨_, S.out.symm, rfl⟩, hbr.trans (hb5.mono (by omega))⟩
                case measure => simp [intOf]; omega
              · obtain rfl : m = a.ks.length := by omega
                have F := Lib.hid (show cmpT a b = 0 by
                  have := HX.out
                  rw [List.take_length, HL.out, List.take_length] at this
                  rw [cmp_kids H.out, ← this])
                have hd : decide ((a.ks.length : Int) < (a.ks.length : Int)) = false := by simp
                go_wp2_with fail
                go_ret
                exact ⟨ret_int (by rw [F.out]), hbw⟩
            · have F := Lib.hid (show cmpT a b = x by rw [cmp_kids H.out, HX.out]; exact cmpL_of_take _ _ _ (by rw [← HX.out]; exact hx0))
              have hx1 : (x == 0) = false := by rw [beq_eq_false_iff_ne]; exact hx0
              go_wp2_with fail
              go_ret
              exact ⟨ret_int (by rw [F.out]), hbw⟩
        · have F := Lib.hid (show cmpT a b = x3 by
            have e : headC a b = x3 := by unfold headC; rw [if_neg (by rw [← X1.out]; simp), if_neg (by rw [← X2.out]; simp)]; exact X3.out.symm
            rw [cmp_head (by rw [e]; exact e3), e])
          have e3' : (x3 == 0) = false := by rw [beq_eq_false_iff_ne]; exact e3
          go_enter Tryd.func28, Tryd.ntmps28
          go_wp2_with (go_at_call 56; refine (by_any _ _ _).mono ?_; rintro e w' ⟨rfl, rfl⟩; first | rw [← X1.out] | rw [← X2.out] | rw [← X3.out])
          go_loopw [5, 6] (fun s i wr => s = .int .i64 x3 ∧ i = .int .i64 0 ∧ Below w.heap.size w wr) (fun _ _ _ => 0)
          case atStart => exact ⟨rfl, rfl, hz1⟩
          case round =>
            obtain ⟨rfl, rfl, hbr⟩ := hrel
            go_wp2_with fail
            go_ret
            exact ⟨ret_int (by rw [F.out]), hbr⟩
      · have F := Lib.hid (show cmpT a b = x2 by
          have e : headC a b = x2 := by unfold headC; rw [if_neg (by rw [← X1.out]; simp), if_pos (by rw [← X2.out]; exact e2)]; exact X2.out.symm
          rw [cmp_head (by rw [e]; exact e2), e])
        have e2' : (x2 == 0) = false := by rw [beq_eq_false_iff_ne]; exact e2
        go_enter Tryd.func28, Tryd.ntmps28
        go_wp2_with (go_at_call 56; refine (by_any _ _ _).mono ?_; rintro e w' ⟨rfl, rfl⟩; first | rw [← X1.out] | rw [← X2.out] | rw [← X3.out])
        go_loopw [5, 6] (fun s i wr => s = .int .i64 x2 ∧ i = .int .i64 0 ∧ Below w.heap.size w wr) (fun _ _ _ => 0)
        case atStart => exact ⟨rfl, rfl, hz1⟩
        case round =>
          obtain ⟨rfl, rfl, hbr⟩ := hrel
          go_wp2_with fail
          go_ret
          exact ⟨ret_int (by rw [F.out]), hbr⟩
    · have F := Lib.hid (show cmpT a b = x1 by
        have e : headC a b = x1 := by unfold headC; rw [if_pos (by rw [← X1.out]; exact e1)]; exact X1.out.symm
        rw [cmp_head (by rw [e]; exact e1), e])
      have e1' : (x1 == 0) = false := by rw [beq_eq_false_iff_ne]; exact e1
      go_enter Tryd.func28, Tryd.ntmps28
      go_wp2_with (go_at_call 56; refine (by_any _ _ _).mono ?_; rintro e w' ⟨rfl, rfl⟩; first | rw [← X1.out] | rw [← X2.out] | rw [← X3.out])
      go_loopw [5, 6] (fun s i wr => s = .int .i64 x1 ∧ i = .int .i64 0 ∧ Below w.heap.size w wr) (fun _ _ _ => 0)
      case atStart => exact ⟨rfl, rfl, hz1⟩
      case round =>
        obtain ⟨rfl, rfl, hbr⟩ := hrel
        go_wp2_with fail
        go_ret
        exact ⟨ret_int (by rw [F.out]), hbr⟩
end Go.Proofs.YtgnfbhemkombaaaDoor
namespace Go.Proofs.YtgnfbhemkombaaaDoor
open Go.RowKit
/-! ### two trees handed in, boxed -/
/-- the two boxes, the two trees, in a later world -/
structure Two (w wr : World) (a b : Tr) (A A' : Option Addr) (c c' : Nat) : Prop where
  b0 : wr.cell? ⟨w.heap.size, 0, none⟩ = some (.int .i64 a.k)
  b1 : wr.cell? ⟨w.heap.size, 1, none⟩ = some (.int .i64 a.i)
  b2 : wr.cell? ⟨w.heap.size, 2, none⟩ = some (.slice A a.ks.length c)
  d0 : wr.cell? ⟨w.heap.size + 1, 0, none⟩ = some (.int .i64 b.k)
  d1 : wr.cell? ⟨w.heap.size + 1, 1, none⟩ = some (.int .i64 b.i)
  d2 : wr.cell? ⟨w.heap.size + 1, 2, none⟩ = some (.slice A' b.ks.length c')
  ta : IsT wr wr.heap.size a A c
  tb : IsT wr wr.heap.size b A' c'
  below : Below w.heap.size w wr
  size : w.heap.size + 2 ≤ wr.heap.size
theorem two_start {w : World} {a b : Tr} {A A' : Option Addr} {c c' : Nat} (ha : IsT w w.heap.size a A c) (hb : IsT w w.heap.size b A' c') :
    Two w ((w.alloc (.cells #[.int .i64 a.k, .int .i64 a.i, .slice A a.ks.length c] 24)).alloc (.cells #[.int .i64 b.k, .int .i64 b.i, .slice A' b.ks.length c'] 24)) a b A A' c c' := by
  have h1 : Below w.heap.size w ((w.alloc (.cells #[.int .i64 a.k, .int .i64 a.i, .slice A a.ks.length c] 24)).alloc (.cells #[.int .i64 b.k, .int .i64 b.i, .slice A' b.ks.length c'] 24)) := ((Below.refl _ _).alloc (Nat.le_refl _) _).alloc (by simp) _
  obtain ⟨⟨f0, f1, f2⟩, g0, g1, g2⟩ := two_boxes (Below.refl (w.heap.size + 2) ((w.alloc (.cells #[.int .i64 a.k, .int .i64 a.i, .slice A a.ks.length c] 24)).alloc (.cells #[.int .i64 b.k, .int .i64 b.i, .slice A' b.ks.length c'] 24)))
  exact ⟨f0, f1, f2, g0, g1, g2, ha.keep h1 h1.size, hb.keep h1 h1.size, h1, by simp⟩
theorem Two.keep {w wr w1 : World} {a b : Tr} {A A' : Option Addr} {c c' : Nat} (h : Two w wr a b A A' c c') (hb : Below wr.heap.size wr w1) : Two w w1 a b A A' c c' := by
  have hs := h.size
  have e : ∀ {p : Addr} {v : Value}, wr.cell? p = some v → w1.cell? p = some v := fun hv => (hb.cell (block_lt_of_cell hv)).trans hv
  exact ⟨e h.b0, e h.b1, e h.b2, e h.d0, e h.d1, e h.d2, h.ta.keep hb hb.size, h.tb.keep hb hb.size, h.below.trans (hb.mono h.below.size), Nat.le_trans hs hb.size⟩
def likeB (a b : Tr) : Bool := decide (cmpT a b = 0)
set_option maxHeartbeats 1000000 in
theorem like_any (a b : Tr) (A A' : Option Addr) (c c' : Nat) (w : World) (ha : IsT w w.heap.size a A c) (hb : IsT w w.heap.size b A' c') :
    Calls Tryd.prog 12 #[.agg #[.int .i64 a.k, .int .i64 a.i, .slice A a.ks.length c], .agg #[.int .i64 b.k, .int .i64 b.i, .slice A' b.ks.length c']] w fun e w' => e = .returned (.bool (likeB a b)) ∧ Below w.heap.size w w' := by
  have T0 := Lib.hid (two_start ha hb)
  clear ha hb
  by_cases hc : cmpT a b = 0
  · have hc1 : (cmpT a b == 0) = true := by simpa using hc
    have G := Lib.hid (show likeB a b = true by unfold likeB; rw [decide_eq_true hc])
    clear hc
    go_enter Tryd.func12, Tryd.ntmps12
    go_wp2_with (go_at_call 28; refine (order_any a.sz a b A A' c c' _ (Nat.le_refl _) (by exact T0.out.ta) (by exact T0.out.tb)).mono ?_; rintro e w1 ⟨rfl, hb1⟩)
    go_ret
    exact ⟨by rw [G.out]; rfl, (T0.out.keep hb1).below⟩
  · have hc1 : (cmpT a b == 0) = false := by simpa using hc
    have G := Lib.hid (show likeB a b = false by unfold likeB; rw [decide_eq_false hc])
    clear hc
    go_enter Tryd.func12, Tryd.ntmps12
    go_wp2_with (go_at_call 28; refine (order_any a.sz a b A A' c c' _ (Nat.le_refl _) (by exact T0.out.ta) (by exact T0.out.tb)).mono ?_; rintro e w1 ⟨rfl, hb1⟩)
    go_ret
    exact ⟨by rw [G.out]; rfl, (T0.out.keep hb1).below⟩
end Go.Proofs.YtgnfbhemkombaaaDoor
namespace Go.Proofs.YtgnfbhemkombaaaDoor
open Go.RowKit
set_option linter.unusedVariables false
set_option linter.unusedSimpArgs false
theorem whole_ok {P : List Tok → PR} {n : Nat} {L : LexR} {t : Tr} (h : wholeR P n L = .ok t) : ∃ l, L = .ok l ∧ P l = .ok t [] := by
  cases L with
  | bad c i => simp [wholeR] at h
  | ok l =>
    simp only [wholeR] at h
    cases hP : P l with
    | bad r => rw [hP] at h; cases h
    | ok u r =>
      rw [hP] at h
      simp only [] at h
      by_cases hr : r = []
      · rw [if_pos hr] at h
        split at h
        · cases h; exact ⟨l, rfl, by rw [hP, hr]⟩
        · cases h
      · rw [if_neg hr] at h; cases h
theorem formP_whole_shp {s : ByteArray} {t : Tr} (h : wholeR (formP 16100) s.size (lexAll (bytesN s)) = .ok t) : t.shp = true := by
  obtain ⟨l, h1, h2⟩ := whole_ok h
  exact (formP_shp 16100 l t [] (lexAll_ok h1) h2).1.1
theorem termP_whole_shp {s : ByteArray} {t : Tr} (h : wholeR (termP 16100) s.size (lexAll (bytesN s)) = .ok t) : t.shp = true := by
  obtain ⟨l, h1, h2⟩ := whole_ok h
  exact (termP_shp 16100 l t [] (lexAll_ok h1) h2).1.1
def zeroTr : Tr := .node 0 0 []
/-- what is answered: a tree, a code, a place -/
def whT : WR → Tr × Nat × Nat
  | .ok t => (t, 0, 0)
  | .bad c i => (zeroTr, c, i)
theorem zeroTr_fit : zeroTr.fit := (fit_eq _).2 ⟨by simp [zeroTr, Tr.ks, Cap], fun q hq => by simp [zeroTr, Tr.ks] at hq⟩
theorem wr_fit {r : WR} (h : ∀ t, r = .ok t → t.shp = true) : (whT r).1.fit := by
  cases r with
  | ok t => exact fit_of_shp t (h t rfl)
  | bad c i => exact zeroTr_fit
theorem ExprPost.val {w w' : World} {r : WR} {e : Ending} (h : ExprPost w r e w') (hf : (whT r).1.fit) : Below w.heap.size w w' ∧ ∃ A c, e = .returned (.tuple #[.agg #[.int .i64 (whT r).1.k, .int .i64 (whT r).1.i, .slice A (whT r).1.ks.length c], .int .i64 ((whT r).2.1 : Int), .int .i64 ((whT r).2.2 : Int)]) ∧ IsT w' w'.heap.size (whT r).1 A c := by
  obtain ⟨hb, h⟩ := h
  cases r with
  | ok t =>
    obtain ⟨A, c, rfl, ho⟩ := h
    exact ⟨hb, A, c, rfl, ho.isT t (Nat.le_refl _) hf⟩
  | bad c i =>
    cases h
    exact ⟨hb, none, 0, rfl, IsT.mk (by simp [zeroTr, whT, Tr.ks]) (by simp [zeroTr, whT, Tr.ks, Cap]) (fun m hm => by simp [zeroTr, whT, Tr.ks] at hm)⟩
/-- a tree that a box holds -/
structure BxT (W : World) (b : Nat) (t : Tr) (A : Option Addr) (c : Nat) : Prop where
  box : Box3 W b (.int .i64 t.k) (.int .i64 t.i) (.slice A t.ks.length c)
  tree : IsT W W.heap.size t A c
theorem BxT.new {W : World} {t : Tr} {A : Option Addr} {c : Nat} (h : IsT W W.heap.size t A c) : BxT (W.alloc (.cells #[.int .i64 t.k, .int .i64 t.i, .slice A t.ks.length c] 24)) W.heap.size t A c :=
  ⟨Box3.new _ _ _ _, h.keep ((Below.refl _ _).alloc (Nat.le_refl _) _) (by simp)⟩
theorem BxT.keep {W W' : World} {b : Nat} {t : Tr} {A : Option Addr} {c : Nat} (h : BxT W b t A c) (hb : Below W.heap.size W W') : BxT W' b t A c := ⟨h.box.keep hb h.box.lt, h.tree.keep hb hb.size⟩
theorem al_below (W : World) (o : Obj) : Below W.heap.size W (W.alloc o) := (Below.refl _ _).alloc (Nat.le_refl _) _
theorem like_self (t : Tr) : likeB t t = true := by unfold likeB; rw [cmpT_self]; rfl
end Go.Proofs.YtgnfbhemkombaaaDoor
namespace Go.Proofs.YtgnfbhemkombaaaDoor
open Go.RowKit
set_option linter.unusedVariables false
set_option linter.unusedSimpArgs false
theorem bytesN_nb (l : List UInt8) : bytesN ⟨l.toArray⟩ = nb l := by unfold bytesN nb; simp
/-- the text of a right tree is read as the tree -/
theorem whole_text {t : Tr} (hr : rightN t = 0) : wholeR (readerP t 16100) (ByteArray.mk (textT t).toArray).size (lexAll (bytesN ⟨(textT t).toArray⟩)) = .ok t := by
  obtain ⟨hs, hz, hd⟩ := right_shpY hr
  obtain ⟨l, h1, h2⟩ := lex_text hs hz
  have h3 := tree_read hs hd l [] h1 rfl
  rw [List.append_nil] at h3
  rw [bytesN_nb, h2]
  simp only [wholeR]
  rw [h3]
  have hE : excN t.sz (1 + dpL t.ks) = 0 := (right_exc hs).symm.trans hr
  simp only [hE, if_true]
theorem text_sz {t : Tr} (hr : rightN t = 0) : (ByteArray.mk (textT t).toArray).size ≤ maxLen := by
  obtain ⟨hs, hz, hd⟩ := right_shpY hr
  have := text_len t hs
  show (textT t).toArray.size ≤ _
  unfold maxLen
  simp
  omega
theorem fit_rightY {t : Tr} (hr : rightN t = 0) : t.fit := fit_of_shp t (right_shpY hr).1
/-- what a reader answers of a text that is some tree's -/
def RdP (w : World) (t : Tr) (e : Ending) (w' : World) : Prop := Below w.heap.size w w' ∧ ∃ A c, e = .returned (.tuple #[.agg #[.int .i64 t.k, .int .i64 t.i, .slice A t.ks.length c], .int .i64 0, .int .i64 0]) ∧ OwnT w' w.heap.size w'.heap.size t A c
theorem form_back {t : Tr} (hr : rightN t = 0) (hk : termB t.k = false) (w : World) : Calls Tryd.prog 15 #[.string ⟨(textT t).toArray⟩] w (RdP w t) := by
  have h := pformula_any ⟨(textT t).toArray⟩ w (text_sz hr)
  have hw := whole_text hr
  unfold readerP at hw
  rw [hk, if_neg (by simp)] at hw
  rw [hw] at h
  exact h
theorem term_back {t : Tr} (hr : rightN t = 0) (hk : termB t.k = true) (w : World) : Calls Tryd.prog 27 #[.string ⟨(textT t).toArray⟩] w (RdP w t) := by
  have h := ptermf_any ⟨(textT t).toArray⟩ w (text_sz hr)
  have hw := whole_text hr
  unfold readerP at hw
  rw [hk, if_pos rfl] at hw
  rw [hw] at h
  exact h
/-- the two boxes of reads -/
structure RY (w W : World) (t : Tr) (A : Option Addr) (c : Nat) (u : Tr) (B : Option Addr) (d : Nat) : Prop where
  ty : TY w W t.k t.i A t.ks.length c
  bx : Box3 W (w.heap.size + 1) (.int .i64 u.k) (.int .i64 u.i) (.slice B u.ks.length d)
theorem RY.keep {w W W' : World} {t u : Tr} {A B : Option Addr} {c d : Nat} (h : RY w W t A c u B d) (hb : Below W.heap.size W W') : RY w W' t A c u B d := ⟨h.ty.keep hb, h.bx.keep hb h.bx.lt⟩
theorem RY.start (w : World) (t : Tr) (A : Option Addr) (c : Nat) : RY w ((w.alloc (.cells #[.int .i64 t.k, .int .i64 t.i, .slice A t.ks.length c] 24)).alloc (.cells #[.int .i64 0, .int .i64 0, .slice none 0 0] 24)) t A c (.node 0 0 []) none 0 := by
  refine ⟨(TY.start w t.k t.i A t.ks.length c).keep (below_alY _ _), ?_⟩
  have h := Box3.new (w.alloc (.cells #[.int .i64 t.k, .int .i64 t.i, .slice A t.ks.length c] 24)) (.int .i64 0) (.int .i64 0) (.slice none 0 0)
  rw [World.size_alloc] at h
  exact h
theorem set3Y {w : World} {b : Nat} {x y z : Value} (h : Box3 w b x y z) (x' y' z' : Value) : Box3 (((w.setCell ⟨b, 0, none⟩ x').setCell ⟨b, 1, none⟩ y').setCell ⟨b, 2, none⟩ z') b x' y' z' := by
  unfold Box3 at *
  unfold World.setCell
  simp [Array.getElem?_modify, h]
theorem set3Y_size (w : World) (b : Nat) (x' y' z' : Value) : (((w.setCell ⟨b, 0, none⟩ x').setCell ⟨b, 1, none⟩ y').setCell ⟨b, 2, none⟩ z').heap.size = w.heap.size := by simp [World.setCell]
/-- the tree that was read goes into its box -/
theorem RY.put {w W w3 : World} {t u v : Tr} {A B C : Option Addr} {c d f : Nat} (h : RY w W t A c u B d) (hb : Below W.heap.size W w3) (ho : OwnT w3 W.heap.size w3.heap.size v C f) (hf : v.fit) :
    RY w (((w3.setCell ⟨w.heap.size + 1, 0, none⟩ (.int .i64 v.k)).setCell ⟨w.heap.size + 1, 1, none⟩ (.int .i64 v.i)).setCell ⟨w.heap.size + 1, 2, none⟩ (.slice C v.ks.length f)) t A c v C f ∧
    IsT (((w3.setCell ⟨w.heap.size + 1, 0, none⟩ (.int .i64 v.k)).setCell ⟨w.heap.size + 1, 1, none⟩ (.int .i64 v.i)).setCell ⟨w.heap.size + 1, 2, none⟩ (.slice C v.ks.length f)) (((w3.setCell ⟨w.heap.size + 1, 0, none⟩ (.int .i64 v.k)).setCell ⟨w.heap.size + 1, 1, none⟩ (.int .i64 v.i)).setCell ⟨w.heap.size + 1, 2, none⟩ (.slice C v.ks.length f)).heap.size v C f := by
  have hlt := h.bx.lt
  have h3 := h.keep hb
  refine ⟨⟨⟨?_, ?_⟩, set3Y h3.bx _ _ _⟩, ?_⟩
  · exact ((h3.ty.below.setCell (p := ⟨w.heap.size + 1, 0, none⟩) (Nat.le_succ _) _).setCell (p := ⟨w.heap.size + 1, 1, none⟩) (Nat.le_succ _) _).setCell (p := ⟨w.heap.size + 1, 2, none⟩) (Nat.le_succ _) _
  · exact ((h3.ty.box.set_other ⟨w.heap.size + 1, 0, none⟩ _ (by show w.heap.size ≠ w.heap.size + 1; omega)).set_other ⟨w.heap.size + 1, 1, none⟩ _ (by show w.heap.size ≠ w.heap.size + 1; omega)).set_other ⟨w.heap.size + 1, 2, none⟩ _ (by show w.heap.size ≠ w.heap.size + 1; omega)
  · refine OwnT.isT v (OwnT.same v (fun k h1 h2 => set3_other w3 (w.heap.size + 1) k _ _ _ (by omega)) ho) ?_ hf
    rw [set3Y_size]
    exact Nat.le_refl _
set_option maxHeartbeats 4000000 in
set_option maxRecDepth 100000 in
theorem readsY_any (t : Tr) (A : Option Addr) (c : Nat) (w : World) (hr : rightN t = 0) (ht : IsT w w.heap.size t A c) :
    Calls Tryd.prog 11 #[.string ⟨(textT t).toArray⟩, .agg #[.int .i64 t.k, .int .i64 t.i, .slice A t.ks.length c]] w fun e w' => e = .returned (.bool true) ∧ Below w.heap.size w w' := by
  have S0 := Lib.hid (RY.start w t A c)
  have HT := Lib.hid ht
  have HF := Lib.hid (fit_rightY hr)
  have FB := Lib.hid (fun (hk : termB t.k = false) (W : World) => form_back hr hk W)
  have TB := Lib.hid (fun (hk : termB t.k = true) (W : World) => term_back hr hk W)
  obtain ⟨S, hS⟩ : ∃ S : ByteArray, S = ⟨(textT t).toArray⟩ := ⟨_, rfl⟩
  rw [← hS] at FB TB ⊢
  clear ht hr hS
  obtain ⟨x0, x1, x2⟩ := S0.out.ty.box.cells
  go_enter Tryd.func11, Tryd.ntmps11
  go_wp2_with fail
  refine (term_any t.k t.i A t.ks.length c _).mono ?_
  rintro e w1 ⟨rfl, hb1⟩
  have S1 := Lib.hid (S0.out.keep hb1)
  clear hb1 x0 x1 x2 S0
  obtain ⟨n0, n1, n2⟩ := S1.out.bx.cells
  have f0 := S1.out.bx.frozen 0
  cases hk : termB t.k with
  | true =>
    have TQ := Lib.hid (fun W => TB.out hk W)
    clear hk
    go_wp2_with fail
    refine (TQ.out _).mono ?_
    rintro e w3 ⟨hb3, A3, c3, rfl, ho⟩
    have S3 := Lib.hid (S1.out.put hb3 ho HF.out)
    have N3 := Lib.hid (S1.out.keep hb3)
    clear hb3 ho n0 n1 n2 f0 S1
    obtain ⟨n0, n1, n2⟩ := N3.out.bx.cells
    have f0 := N3.out.bx.frozen 0
    have f1 := N3.out.bx.frozen 1
    have f2 := N3.out.bx.frozen 2
    obtain ⟨m0, m1, m2⟩ := S3.out.1.bx.cells
    obtain ⟨y0, y1, y2⟩ := S3.out.1.ty.box.cells
    have KT := Lib.hid (HT.out.keep S3.out.1.ty.below S3.out.1.ty.below.size)
    go_wp2_with fail
    refine (like_any t t A3 A c3 c _ (by exact S3.out.2) (by exact KT.out)).mono ?_
    rintro e w4 ⟨rfl, hb4⟩
    rw [like_self]
    have B4 := Lib.hid (S3.out.1.ty.below.trans (hb4.mono S3.out.1.ty.below.size))
    clear hb4
    go_wp2_with fail
    go_ret
    exact ⟨rfl, B4.out⟩
  | false =>
    have FQ := Lib.hid (fun W => FB.out hk W)
    clear hk
    go_wp2_with fail
    refine (FQ.out _).mono ?_
    rintro e w3 ⟨hb3, A3, c3, rfl, ho⟩
    have S3 := Lib.hid (S1.out.put hb3 ho HF.out)
    have N3 := Lib.hid (S1.out.keep hb3)
    clear hb3 ho n0 n1 n2 f0 S1
    obtain ⟨n0, n1, n2⟩ := N3.out.bx.cells
    have f0 := N3.out.bx.frozen 0
    have f1 := N3.out.bx.frozen 1
    have f2 := N3.out.bx.frozen 2
    obtain ⟨m0, m1, m2⟩ := S3.out.1.bx.cells
    obtain ⟨y0, y1, y2⟩ := S3.out.1.ty.box.cells
    have KT := Lib.hid (HT.out.keep S3.out.1.ty.below S3.out.1.ty.below.size)
    go_wp2_with fail
    refine (like_any t t A3 A c3 c _ (by exact S3.out.2) (by exact KT.out)).mono ?_
    rintro e w4 ⟨rfl, hb4⟩
    rw [like_self]
    have B4 := Lib.hid (S3.out.1.ty.below.trans (hb4.mono S3.out.1.ty.below.size))
    clear hb4
    go_wp2_with fail
    go_ret
    exact ⟨rfl, B4.out⟩
/-- two boxes that hold trees that came in -/
structure ZY (w W : World) (a b : Tr) (A B : Option Addr) (c d : Nat) : Prop where
  below : Below w.heap.size w W
  ba : Box3 W w.heap.size (.int .i64 a.k) (.int .i64 a.i) (.slice A a.ks.length c)
  bb : Box3 W (w.heap.size + 1) (.int .i64 b.k) (.int .i64 b.i) (.slice B b.ks.length d)
theorem ZY.keep {w W W' : World} {a b : Tr} {A B : Option Addr} {c d : Nat} (h : ZY w W a b A B c d) (hb : Below W.heap.size W W') : ZY w W' a b A B c d := ⟨h.below.trans (hb.mono h.below.size), h.ba.keep hb h.ba.lt, h.bb.keep hb h.bb.lt⟩
theorem ZY.start (w : World) (a b : Tr) (A B : Option Addr) (c d : Nat) : ZY w ((w.alloc (.cells #[.int .i64 a.k, .int .i64 a.i, .slice A a.ks.length c] 24)).alloc (.cells #[.int .i64 b.k, .int .i64 b.i, .slice B b.ks.length d] 24)) a b A B c d := by
  have h0 := TY.start w a.k a.i A a.ks.length c
  have h1 := h0.keep (below_alY _ (.cells #[.int .i64 b.k, .int .i64 b.i, .slice B b.ks.length d] 24))
  have h := Box3.new (w.alloc (.cells #[.int .i64 a.k, .int .i64 a.i, .slice A a.ks.length c] 24)) (.int .i64 b.k) (.int .i64 b.i) (.slice B b.ks.length d)
  rw [World.size_alloc] at h
  exact ⟨h1.below, h1.box, h⟩
theorem like_iffY (a b : Tr) : likeB a b = true ↔ a = b := by unfold likeB; rw [decide_eq_true_iff]; exact cmpT_zero a b
theorem text_same {a b : Tr} (ha : rightN a = 0) (hb : rightN b = 0) : ((ByteArray.mk (textT a).toArray).toList == (ByteArray.mk (textT b).toArray).toList) = likeB a b := by
  rw [Bool.eq_iff_iff, like_iffY, beq_iff_eq]
  constructor
  · intro h
    obtain ⟨sa, za, da⟩ := right_shpY ha
    obtain ⟨sb, zb, db⟩ := right_shpY hb
    rw [ByteArray.toList_eq, ByteArray.toList_eq] at h
    exact text_inj sa sb za zb da db (by simpa using h)
  · rintro rfl
    rfl
set_option maxHeartbeats 8000000 in
set_option maxRecDepth 100000 in
theorem pback_law (a b : Tr) (A B : Option Addr) (c d : Nat) (w : World) (ha : IsT w w.heap.size a A c) (hb : IsT w w.heap.size b B d) :
    Calls Tryd.prog 4 #[.agg #[.int .i64 a.k, .int .i64 a.i, .slice A a.ks.length c], .agg #[.int .i64 b.k, .int .i64 b.i, .slice B b.ks.length d]] w fun e w' => e = .returned (.bool true) ∧ Below w.heap.size w w' := by
  have Z0 := Lib.hid (ZY.start w a b A B c d)
  have TA := Lib.hid (fun (W : World) (h : Below w.heap.size w W) => (ha.keep h h.size : IsT W W.heap.size a A c))
  have TB := Lib.hid (fun (W : World) (h : Below w.heap.size w W) => (hb.keep h h.size : IsT W W.heap.size b B d))
  obtain ⟨ra, hra⟩ : ∃ ra, ra = rightN a := ⟨_, rfl⟩
  obtain ⟨rb, hrb⟩ : ∃ rb, rb = rightN b := ⟨_, rfl⟩
  obtain ⟨sa, hsa⟩ : ∃ sa : ByteArray, sa = ⟨(printL a).toArray⟩ := ⟨_, rfl⟩
  obtain ⟨sb, hsb⟩ : ∃ sb : ByteArray, sb = ⟨(printL b).toArray⟩ := ⟨_, rfl⟩
  have PA := Lib.hid (fun (W : World) (h : Below w.heap.size w W) => hra ▸ hsa ▸ print_any a A c W (ha.keep h h.size))
  have PB := Lib.hid (fun (W : World) (h : Below w.heap.size w W) => hrb ▸ hsb ▸ print_any b B d W (hb.keep h h.size))
  have QA := Lib.hid (fun (W : World) (h : Below w.heap.size w W) => hra ▸ rright_any a A c W (ha.keep h h.size))
  have QB := Lib.hid (fun (W : World) (h : Below w.heap.size w W) => hrb ▸ rright_any b B d W (hb.keep h h.size))
  have RA := Lib.hid (fun (h0 : ra = 0) (W : World) (h : Below w.heap.size w W) => (show Calls Tryd.prog 11 #[.string sa, .agg #[.int .i64 a.k, .int .i64 a.i, .slice A a.ks.length c]] W fun e w' => e = .returned (.bool true) ∧ Below W.heap.size W w' from by
    have e : sa = ⟨(textT a).toArray⟩ := by rw [hsa]; unfold printL; rw [if_pos (hra.symm.trans h0)]
    rw [e]
    exact readsY_any a A c W (hra.symm.trans h0) (ha.keep h h.size)))
  have RB := Lib.hid (fun (h0 : rb = 0) (W : World) (h : Below w.heap.size w W) => (show Calls Tryd.prog 11 #[.string sb, .agg #[.int .i64 b.k, .int .i64 b.i, .slice B b.ks.length d]] W fun e w' => e = .returned (.bool true) ∧ Below W.heap.size W w' from by
    have e : sb = ⟨(textT b).toArray⟩ := by rw [hsb]; unfold printL; rw [if_pos (hrb.symm.trans h0)]
    rw [e]
    exact readsY_any b B d W (hrb.symm.trans h0) (hb.keep h h.size)))
  have SM := Lib.hid (fun (h0 : ra = 0) (h1 : rb = 0) => (show (sa.toList == sb.toList) = likeB a b by
    rw [hsa, hsb]
    unfold printL
    rw [if_pos (hra.symm.trans h0), if_pos (hrb.symm.trans h1)]
    exact text_same (hra.symm.trans h0) (hrb.symm.trans h1)))
  have e1 : ((ra : Int) != (ra : Int)) = false := by simp
  have e2 : ((rb : Int) != (rb : Int)) = false := by simp
  clear ha hb hra hrb hsa hsb
  obtain ⟨x0, x1, x2⟩ := Z0.out.ba.cells
  obtain ⟨y0, y1, y2⟩ := Z0.out.bb.cells
  go_enter Tryd.func4, Tryd.ntmps4
  go_wp2_with fail
  refine (PA.out _ Z0.out.below).mono ?_
  rintro e w1 ⟨rfl, hb1⟩
  have Z1 := Lib.hid (Z0.out.keep hb1)
  clear hb1 x0 x1 x2 y0 y1 y2 Z0
  obtain ⟨x0, x1, x2⟩ := Z1.out.ba.cells
  obtain ⟨y0, y1, y2⟩ := Z1.out.bb.cells
  go_wp2_with fail
  refine (PB.out _ Z1.out.below).mono ?_
  rintro e w2 ⟨rfl, hb2⟩
  have Z2 := Lib.hid (Z1.out.keep hb2)
  clear hb2 x0 x1 x2 y0 y1 y2 Z1
  obtain ⟨x0, x1, x2⟩ := Z2.out.ba.cells
  obtain ⟨y0, y1, y2⟩ := Z2.out.bb.cells
  go_wp2_with fail
  refine (QA.out _ Z2.out.below).mono ?_
  rintro e w3 ⟨rfl, hb3⟩
  have Z3 := Lib.hid (Z2.out.keep hb3)
  clear hb3 x0 x1 x2 y0 y1 y2 Z2
  obtain ⟨x0, x1, x2⟩ := Z3.out.ba.cells
  obtain ⟨y0, y1, y2⟩ := Z3.out.bb.cells
  go_wp2_with fail
  refine (QB.out _ Z3.out.below).mono ?_
  rintro e w4 ⟨rfl, hb4⟩
  have Z4 := Lib.hid (Z3.out.keep hb4)
  clear hb4 x0 x1 x2 y0 y1 y2 Z3
  obtain ⟨x0, x1, x2⟩ := Z4.out.ba.cells
  obtain ⟨y0, y1, y2⟩ := Z4.out.bb.cells
  by_cases h0 : ra = 0
  · by_cases h1 : rb = 0
    · subst h0
      subst h1
      have RA' := Lib.hid (fun W => RA.out rfl W)
      have RB' := Lib.hid (fun W => RB.out rfl W)
      obtain ⟨v, hv⟩ : ∃ v, v = likeB a b := ⟨_, rfl⟩
      have SV : (sa.toList == sb.toList) = v := (SM.out rfl rfl).trans hv.symm
      have LV := Lib.hid (fun (W : World) (h : Below w.heap.size w W) => hv ▸ like_any a b A B c d W (TA.out W h) (TB.out W h))
      clear hv
      go_wp2_with fail
      refine (RA'.out _ Z4.out.below).mono ?_
      rintro e w5 ⟨rfl, hb5⟩
      have Z5 := Lib.hid (Z4.out.keep hb5)
      clear hb5 x0 x1 x2 y0 y1 y2 Z4
      obtain ⟨x0, x1, x2⟩ := Z5.out.ba.cells
      obtain ⟨y0, y1, y2⟩ := Z5.out.bb.cells
      go_wp2_with fail
      refine (RB'.out _ Z5.out.below).mono ?_
      rintro e w6 ⟨rfl, hb6⟩
      have Z6 := Lib.hid (Z5.out.keep hb6)
      clear hb6 x0 x1 x2 y0 y1 y2 Z5
      obtain ⟨x0, x1, x2⟩ := Z6.out.ba.cells
      obtain ⟨y0, y1, y2⟩ := Z6.out.bb.cells
      go_wp2_with fail
      refine (LV.out _ Z6.out.below).mono ?_
      rintro e w7 ⟨rfl, hb7⟩
      have Z7 := Lib.hid (Z6.out.keep hb7)
      clear hb7 x0 x1 x2 y0 y1 y2 Z6
      cases v with
      | true =>
        go_wp2_with fail
        go_ret
        exact ⟨rfl, Z7.out.below⟩
      | false =>
        go_wp2_with fail
        go_ret
        exact ⟨rfl, Z7.out.below⟩
    · subst h0
      have e3 : ((rb : Int) != 0) = true := by rw [bne_iff_ne]; omega
      go_wp2_with fail
      go_ret
      exact ⟨rfl, Z4.out.below⟩
  · have e3 : ((ra : Int) != 0) = true := by rw [bne_iff_ne]; omega
    go_wp2_with fail
    go_ret
    exact ⟨rfl, Z4.out.below⟩
end Go.Proofs.YtgnfbhemkombaaaDoor
