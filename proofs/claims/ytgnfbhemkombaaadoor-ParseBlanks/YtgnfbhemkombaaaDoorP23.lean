/- sign, kindAt, no, joint of the document's layer 3. -/
import Derived.Test.YtgnfbhemkombaaaDoorL8
import Derived.Test.YtgnfbhemkombaaaDoorLY
import Derived.Test.YtgnfbhemkombaaaDoorT11
namespace Go.Proofs.YtgnfbhemkombaaaDoor
open Go.RowKit
set_option linter.unusedVariables false
set_option linter.unusedSimpArgs false
/-- rest is what is left of l from place p on -/
structure Pos (l rest : List Tok) (p : Nat) : Prop where
  suf : rest <:+ l
  len : p + rest.length = l.length
theorem Pos.tail {l r : List Tok} {t : Tok} {p : Nat} (h : Pos l (t :: r) p) : Pos l r (p + 1) := ⟨(List.suffix_cons t r).trans h.suf, by have := h.len; simp only [List.length_cons] at this; omega⟩
theorem Pos.lt {l r : List Tok} {t : Tok} {p : Nat} (h : Pos l (t :: r) p) : p < l.length := by have := h.len; simp only [List.length_cons] at this; omega
theorem Pos.tok {l r : List Tok} {t : Tok} {p : Nat} (h : Pos l (t :: r) p) : l[p]'h.lt = t := by
  obtain ⟨a, rfl⟩ := h.suf
  have := h.len
  simp only [List.length_append] at this
  obtain rfl : p = a.length := by omega
  simp
theorem Pos.le {l r : List Tok} {p : Nat} (h : Pos l r p) : p ≤ l.length := by have := h.len; omega
theorem Pos.nil {l : List Tok} {p : Nat} (h : Pos l [] p) : p = l.length := by have := h.len; simpa using this
theorem Pos.start (l : List Tok) : Pos l l 0 := ⟨List.suffix_refl _, by omega⟩
theorem Pos.sub {l r r' : List Tok} {p : Nat} (h : Pos l r p) (hs : r' <:+ r) : Pos l r' (l.length - r'.length) := ⟨hs.trans h.suf, by have := (hs.trans h.suf).length_le; omega⟩
/-- the token at a place, in memory -/
theorem IsToks.at {w : World} {A : Option Addr} {c : Nat} {l r : List Tok} {t : Tok} {p : Nat} (h : IsToks w A c l) (hp : Pos l (t :: r) p) : ∃ g, A = some ⟨g, 0, none⟩ ∧ l.length ≤ c ∧ g < w.heap.size ∧ w.cell? ⟨g, p * 3, none⟩ = some (.int .i64 (t.k : Int)) ∧ w.cell? ⟨g, p * 3 + 1, none⟩ = some (.int .i64 (t.n : Int)) ∧ w.cell? ⟨g, p * 3 + 2, none⟩ = some (.int .i64 (t.p : Int)) := by
  have := h p hp.lt
  rw [hp.tok] at this
  exact this
def kindN : List Tok → Nat
  | [] => 0
  | t :: _ => t.k
section
variable {A : Option Addr} {c : Nat} {l rest : List Tok} {p : Nat}
set_option maxHeartbeats 1000000 in
set_option maxRecDepth 100000 in
theorem rsign_any (ch : Nat) (w : World) (h : IsToks w A c l) (hp : Pos l rest p) (hl : l.length ≤ 8000) (hc : ch < 256) :
    Calls Tryd.prog 64 #[.slice A l.length c, .int .i64 (p : Int), .int .u8 (ch : Int)] w fun e w' => e = .returned (.bool (stands ch rest)) ∧ Below w.heap.size w w' := by
  cases rest with
  | nil =>
    have hn := hp.nil
    have g : ¬ (p : Int) < (l.length : Int) := by omega
    go_enter Tryd.func64, Tryd.ntmps64
    go_wp2_with fail
    go_ret
    exact ⟨rfl, Below.refl _ _⟩
  | cons t r =>
    obtain ⟨b, rfl, hlc, hlt, d0, d1, d2⟩ := h.at hp
    have hpl := hp.lt
    have g : (p : Int) < (l.length : Int) := by omega
    have S := Lib.hid (show stands ch (t :: r) = ((t.k == 4) && (t.n == ch)) from rfl)
    have w1 : IntKind.i64.wrap (ch : Int) = (ch : Int) := IntWalk.i64_in _ (by omega)
    by_cases h4 : t.k = 4
    · have e4 : ((t.k : Int) == 4) = true := by simp [h4]
      by_cases hn : t.n = ch
      · have e5 : ((t.n : Int) == (ch : Int)) = true := by simp [hn]
        go_enter Tryd.func64, Tryd.ntmps64
        go_wp2_with fail
        go_ret
        exact ⟨by rw [S.out, h4, hn]; simp, Below.refl _ _⟩
      · have e5 : ((t.n : Int) == (ch : Int)) = false := by rw [beq_eq_false_iff_ne]; omega
        have S2 := Lib.hid (show stands ch (t :: r) = false by rw [S.out]; simp [hn])
        go_enter Tryd.func64, Tryd.ntmps64
        go_wp2_with fail
        go_ret
        exact ⟨by rw [S2.out]; rfl, Below.refl _ _⟩
    · have e4 : ((t.k : Int) == 4) = false := by rw [beq_eq_false_iff_ne]; omega
      have S2 := Lib.hid (show stands ch (t :: r) = false by rw [S.out]; simp [h4])
      go_enter Tryd.func64, Tryd.ntmps64
      go_wp2_with fail
      go_ret
      exact ⟨by rw [S2.out]; rfl, Below.refl _ _⟩
set_option maxHeartbeats 1000000 in
set_option maxRecDepth 100000 in
theorem rkindAt_any (w : World) (h : IsToks w A c l) (hp : Pos l rest p) (hl : l.length ≤ 8000) :
    Calls Tryd.prog 67 #[.slice A l.length c, .int .i64 (p : Int)] w fun e w' => e = .returned (.int .i64 (kindN rest : Int)) ∧ Below w.heap.size w w' := by
  cases rest with
  | nil =>
    have hn := hp.nil
    have g : ¬ (p : Int) < (l.length : Int) := by omega
    go_enter Tryd.func67, Tryd.ntmps67
    go_wp2_with fail
    go_ret
    exact ⟨rfl, Below.refl _ _⟩
  | cons t r =>
    obtain ⟨b, rfl, hlc, hlt, d0, d1, d2⟩ := h.at hp
    have hpl := hp.lt
    have g : (p : Int) < (l.length : Int) := by omega
    go_enter Tryd.func67, Tryd.ntmps67
    go_wp2_with fail
    go_ret
    exact ⟨rfl, Below.refl _ _⟩
set_option maxHeartbeats 1000000 in
set_option maxRecDepth 100000 in
theorem rjoint_any (w : World) (h : IsToks w A c l) (hp : Pos l rest p) (hl : l.length ≤ 8000) :
    Calls Tryd.prog 99 #[.slice A l.length c, .int .i64 (p : Int)] w fun e w' => e = .returned (.int .i64 (jointN rest : Int)) ∧ Below w.heap.size w w' := by
  have H := Lib.hid h
  clear h
  cases h1 : stands 62 rest with
  | true =>
    have J := Lib.hid (show jointN rest = 6 by unfold jointN; rw [h1]; rfl)
    go_enter Tryd.func99, Tryd.ntmps99
    go_wp2_with (go_at_call 64; refine (rsign_any 62 _ H.out hp hl (by omega)).mono ?_; rintro e w1 ⟨rfl, hb1⟩; rw [h1])
    go_ret
    exact ⟨by rw [J.out]; rfl, hb1⟩
  | false =>
    cases h2 : stands 38 rest with
    | true =>
      have J := Lib.hid (show jointN rest = 8 by unfold jointN; rw [h1, h2]; rfl)
      go_enter Tryd.func99, Tryd.ntmps99
      go_wp2_with fail
      refine (rsign_any 62 _ H.out hp hl (by omega)).mono ?_; rintro e w1 ⟨rfl, hb1⟩; rw [h1]
      go_wp2_with fail
      refine (rsign_any 38 _ (H.out.keep hb1) hp hl (by omega)).mono ?_; rintro e w2 ⟨rfl, hb2⟩; rw [h2]
      go_wp2_with fail
      go_ret
      exact ⟨by rw [J.out]; rfl, hb1.trans (hb2.mono hb1.size)⟩
    | false =>
      cases h3 : stands 124 rest with
      | true =>
        have J := Lib.hid (show jointN rest = 9 by unfold jointN; rw [h1, h2, h3]; rfl)
        go_enter Tryd.func99, Tryd.ntmps99
        go_wp2_with fail
        refine (rsign_any 62 _ H.out hp hl (by omega)).mono ?_; rintro e w1 ⟨rfl, hb1⟩; rw [h1]
        go_wp2_with fail
        refine (rsign_any 38 _ (H.out.keep hb1) hp hl (by omega)).mono ?_; rintro e w2 ⟨rfl, hb2⟩; rw [h2]
        go_wp2_with fail
        refine (rsign_any 124 _ ((H.out.keep hb1).keep hb2) hp hl (by omega)).mono ?_; rintro e w3 ⟨rfl, hb3⟩; rw [h3]
        go_wp2_with fail
        go_ret
        exact ⟨by rw [J.out]; rfl, (hb1.trans (hb2.mono hb1.size)).trans (hb3.mono (Nat.le_trans hb1.size hb2.size))⟩
      | false =>
        have J := Lib.hid (show jointN rest = 0 by unfold jointN; rw [h1, h2, h3]; rfl)
        go_enter Tryd.func99, Tryd.ntmps99
        go_wp2_with fail
        refine (rsign_any 62 _ H.out hp hl (by omega)).mono ?_; rintro e w1 ⟨rfl, hb1⟩; rw [h1]
        go_wp2_with fail
        refine (rsign_any 38 _ (H.out.keep hb1) hp hl (by omega)).mono ?_; rintro e w2 ⟨rfl, hb2⟩; rw [h2]
        go_wp2_with fail
        refine (rsign_any 124 _ ((H.out.keep hb1).keep hb2) hp hl (by omega)).mono ?_; rintro e w3 ⟨rfl, hb3⟩; rw [h3]
        go_wp2_with fail
        go_ret
        exact ⟨by rw [J.out]; rfl, (hb1.trans (hb2.mono hb1.size)).trans (hb3.mono (Nat.le_trans hb1.size hb2.size))⟩
end
end Go.Proofs.YtgnfbhemkombaaaDoor
