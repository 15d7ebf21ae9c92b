/- place of the document's layer 5. -/
import Derived.Test.YtfdggmmibgbfnaaE24
import Derived.Test.YtfdggmmibgbfnaaT19
namespace Go.Proofs.Ytfdggmmibgbfnaa
open Go.RowKit
set_option linter.unusedVariables false
set_option linter.unusedSimpArgs false
theorem placeI_take (zs : List Int) (x : Int) (m : Nat) (h : m < zs.length) : placeI (zs.take (m + 1)) x = if zs[m] = x then (m : Int) else placeI (zs.take m) x := by
  rw [List.take_succ_eq_append_getElem h, placeI_snoc, List.length_take, Nat.min_eq_left (by omega)]
theorem Rd.at {w : World} {B : Nat} {A : Option Addr} {zs : List Int} (h : Rd .i64 w B A zs) (k : Nat) (hk : k < zs.length) : ∃ ad, A = some ad ∧ ad.block < B ∧ w.cell? (ad.add k) = some (.int .i64 zs[k]) := by
  obtain ⟨ad, e, hlt, hc⟩ := h k hk
  refine ⟨ad, e, hlt, ?_⟩
  rw [hc, List.getD_eq_getElem?_getD, List.getElem?_eq_getElem hk]
  rfl
set_option maxHeartbeats 2000000 in
set_option maxRecDepth 100000 in
theorem place_any (zs : List Int) (A : Option Addr) (n cap : Nat) (x : Int) (w : World) (hz : zs.length = n) (hn : n ≤ 1000) (hr : Rd .i64 w w.heap.size A zs) :
    Calls Try.prog 100 #[.slice A n cap, .int .i64 x] w fun e w' => e = .returned (.int .i64 (placeI zs x)) ∧ Below w.heap.size w w' := by
  have HR := Lib.hid hr
  have HZ := Lib.hid hz
  clear hr hz
  go_enter Try.func100, Try.ntmps100
  go_wp2_with fail
  go_loopw [5] (fun iv wr => ∃ m : Nat, m ≤ n ∧ iv = .int .i64 ((m : Int) - 1) ∧ placeI zs x = placeI (zs.take m) x ∧ wr = w) (fun iv _ => (intOf iv + 1).toNat)
  case atStart => exact ⟨n, Nat.le_refl _, rfl, by rw [List.take_of_length_le (by rw [HZ.out]; exact Nat.le_refl _)], rfl⟩
  case round =>
    obtain ⟨m, hm, rfl, hP, rfl⟩ := hrel
    have PP := Lib.hid hP
    clear hP
    cases m with
    | zero =>
      have F := Lib.hid (show placeI zs x = -1 by rw [PP.out, List.take_zero]; rfl)
      go_wp2_with fail
      go_ret
      exact ⟨by rw [F.out]; rfl, Below.refl _ _⟩
    | succ m =>
      have e1 : ((m + 1 : Nat) : Int) - 1 = (m : Int) := by omega
      rw [e1]
      obtain ⟨ad, rfl, had, hc⟩ := HR.out.at m (by rw [HZ.out]; omega)
      have PT := Lib.hid (placeI_take zs x m (by rw [HZ.out]; omega))
      obtain ⟨z, hz⟩ : ∃ z, z = zs[m]'(by rw [HZ.out]; omega) := ⟨_, rfl⟩
      rw [← hz] at hc PT
      clear hz
      have h0 : (0 : Int) ≤ (m : Int) := by omega
      have h1 : (m : Int) < (n : Int) := by omega
      have w1 : IntKind.i64.wrap ((m : Int) - 1) = (m : Int) - 1 := by rw [IntKind.wrap_i64]; omega
      by_cases he : z = x
      · have he' : (z == x) = true := by simp [he]
        have F := Lib.hid (show placeI zs x = (m : Int) by rw [PP.out, PT.out, if_pos he])
        clear he
        go_wp2_with fail
        go_ret
        exact ⟨by rw [F.out]; rfl, Below.refl _ _⟩
      · have he' : (z == x) = false := by simpa using he
        have F := Lib.hid (show placeI zs x = placeI (zs.take m) x by rw [PP.out, PT.out, if_neg he])
        clear he
        go_wp2_with fail
        go_roundw
        case rel => exact ⟨m, by omega, rfl, F.out, by first | rfl | trivial⟩
        case measure => simp [intOf]
end Go.Proofs.Ytfdggmmibgbfnaa
