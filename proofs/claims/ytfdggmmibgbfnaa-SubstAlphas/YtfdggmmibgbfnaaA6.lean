/- Couples that wait to be compared: the stack of equivalent, as mathematics and in memory. -/
import Derived.Test.YtfdggmmibgbfnaaA5
import Derived.Test.YtfdggmmibgbfnaaS3
namespace Go.Proofs.Ytfdggmmibgbfnaa
open Go.RowKit
set_option linter.unusedVariables false
set_option linter.unusedSimpArgs false
/-- two nodes that wait, their depth, what the names stand for -/
structure Cp where
  a : Tr
  b : Tr
  d : Nat
  f : Int → Int
  g : Int → Int
/-- where the parts of the two lie -/
structure Pl where
  A : Option Addr
  c : Nat
  A' : Option Addr
  c' : Nat
def Cp.row (s : Cp) (p : Pl) : List Value := rowCp s.a s.b p.A p.A' p.c p.c' (s.d : Int) s.f s.g
theorem Cp.row_len (s : Cp) (p : Pl) : (s.row p).length = 135 := rowCp_len _ _ _ _ _ _ _ _ _
def rowCs : List Cp → List Pl → List Value
  | s :: r, p :: q => s.row p ++ rowCs r q
  | _, _ => []
theorem rowCs_len : ∀ (l : List Cp) (cs : List Pl), cs.length = l.length → (rowCs l cs).length = l.length * 135
  | [], [], _ => rfl
  | t :: r, p :: s, h => by simp only [rowCs, List.length_append, List.length_cons, Cp.row_len]; rw [rowCs_len r s (by simpa using h)]; omega
theorem rowCs_append : ∀ (l : List Cp) (cs : List Pl) (s : Cp) (p : Pl), cs.length = l.length → rowCs (l ++ [s]) (cs ++ [p]) = rowCs l cs ++ s.row p
  | [], [], s, p, _ => by simp [rowCs]
  | x :: r, y :: q, s, p, h => by simp only [rowCs, List.cons_append]; rw [rowCs_append r q s p (by simpa using h), List.append_assoc]
def goodC (s : Cp) : Prop := s.a.shp = true ∧ s.b.shp = true ∧ 1 ≤ s.d ∧ s.d - 1 + s.a.dp ≤ 100
/-- what names stand for below a node -/
def subF (k i : Int) (d : Nat) (f : Int → Int) : Int → Int := if k = 7 ∨ k = 10 then setF f i (63 + (d : Int)) else f
/-- the parts of the two nodes, in couples -/
def kidCp (s : Cp) : List Cp := (s.a.ks.zip s.b.ks).map fun p => ⟨p.1, p.2, s.d + 1, subF s.a.k s.a.i s.d s.f, subF s.a.k s.b.i s.d s.g⟩
def cpB (st : List Cp) : Bool := st.all fun s => eqvT s.a s.b (s.d : Int) s.f s.g
def cpN (st : List Cp) : Nat := (st.map fun s => s.a.sz).sum
theorem cpB_append (l r : List Cp) : cpB (l ++ r) = (cpB l && cpB r) := by simp [cpB]
theorem cpN_append (l r : List Cp) : cpN (l ++ r) = cpN l + cpN r := by simp [cpN]
theorem cpN_len : ∀ (st : List Cp), st.length ≤ cpN st
  | [] => by simp [cpN]
  | s :: r => by
    have := cpN_len r
    have h := sz_pos s.a
    simp only [cpN, List.map_cons, List.sum_cons, List.length_cons] at *
    omega
theorem eqvL_all : ∀ (r s : List Tr) (d : Int) (f g : Int → Int), eqvL r s d f g = (r.zip s).all fun p => eqvT p.1 p.2 d f g
  | [], _, _, _, _ => by simp [eqvL]
  | _ :: _, [], _, _, _ => by simp [eqvL]
  | a :: r, b :: s, d, f, g => by simp only [eqvL, List.zip_cons_cons, List.all_cons]; rw [eqvL_all r s d f g]
theorem cpB_kids (s : Cp) : cpB (kidCp s) = eqvL s.a.ks s.b.ks ((s.d : Int) + 1) (subF s.a.k s.a.i s.d s.f) (subF s.a.k s.b.i s.d s.g) := by
  rw [eqvL_all]
  unfold cpB kidCp
  rw [List.all_map]
  rfl
theorem cpB_step (s : Cp) : cpB [s] = (agreeB s.a s.b s.f s.g && cpB (kidCp s)) := by
  rw [cpB_kids]
  have e : cpB [s] = eqvT s.a s.b (s.d : Int) s.f s.g := by simp [cpB]
  rw [e, eqvT_eq]
  unfold agreeB subF
  by_cases h : s.a.k = 7 ∨ s.a.k = 10
  · simp only [if_pos h, Bool.and_assoc]
  · simp only [if_neg h, Bool.and_assoc]
theorem kidCp_len (s : Cp) (h : s.a.ks.length = s.b.ks.length) : (kidCp s).length = s.a.ks.length := by simp [kidCp, h]
theorem kidCp_take (s : Cp) (h : s.a.ks.length = s.b.ks.length) (m : Nat) (hm : m < s.a.ks.length) : (kidCp s).take (m + 1) = (kidCp s).take m ++ [⟨s.a.ks[m], s.b.ks[m], s.d + 1, subF s.a.k s.a.i s.d s.f, subF s.a.k s.b.i s.d s.g⟩] := by
  have hl := kidCp_len s h
  rw [List.take_succ_eq_append_getElem (by omega)]
  congr 1
  simp [kidCp]
theorem zip_szL : ∀ (r s : List Tr), ((r.zip s).map fun p => p.1.sz).sum ≤ szL r
  | [], _ => by simp
  | _ :: _, [] => by simp
  | a :: r, b :: s => by
    have := zip_szL r s
    simp only [List.zip_cons_cons, List.map_cons, List.sum_cons, szL]
    omega
theorem cpN_kids (s : Cp) : cpN (kidCp s) + 1 ≤ s.a.sz := by
  have h := zip_szL s.a.ks s.b.ks
  have e : cpN (kidCp s) = ((s.a.ks.zip s.b.ks).map fun p => p.1.sz).sum := by
    unfold cpN kidCp
    rw [List.map_map]
    rfl
  have := sz_eq s.a
  omega
theorem kidCp_good {s : Cp} (h : goodC s) {p : Tr} {q : Tr} (hp : p ∈ s.a.ks) (hq : q ∈ s.b.ks) (f g : Int → Int) : goodC ⟨p, q, s.d + 1, f, g⟩ := by
  obtain ⟨h1, h2, h3, h4⟩ := h
  have h5 := dpL_le.1 (Nat.le_refl (dpL s.a.ks)) p hp
  rw [dp_eq] at h4
  exact ⟨shp_kid h1 hp, shp_kid h2 hq, by show 1 ≤ s.d + 1; omega, by show s.d + 1 - 1 + p.dp ≤ 100; omega⟩
end Go.Proofs.Ytfdggmmibgbfnaa
