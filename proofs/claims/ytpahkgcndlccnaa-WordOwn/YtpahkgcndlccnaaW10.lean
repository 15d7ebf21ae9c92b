/- Lists in memory: what is owned reads as a list; two slices of the same numbers are the same; Set of package word and the document's. -/
import Derived.Test.YtpahkgcndlccnaaW9
import Derived.Deep.QuietTactic
import Derived.BigQuiet
namespace Go.Proofs.Ytpahkgcndlccnaa
open Go.RowKit
theorem rd_of_own {w : World} {B : Nat} {t : TypeId} {k : IntKind} {v : Value} {zs : List Int} {n : Nat} (hn : zs.length = n) (h : w.ownsRow B t 1 v n (zs.map (Value.int k))) :
    ∃ A c, v = .slice A n c ∧ Rd k w w.heap.size A zs ∧ n ≤ c ∧ n ≤ maxLen := by
  rcases own_form h with ⟨rfl, hz⟩ | ⟨g, cap, rfl, _, h1, h2, hc⟩
  · subst hz
    have e : zs = [] := List.eq_nil_of_length_eq_zero hn
    subst e
    exact ⟨none, 0, rfl, Rd.nil _ _ _ _, Nat.le_refl _, Nat.zero_le _⟩
  · refine ⟨_, cap, rfl, fun j hj => ⟨_, rfl, ?_, ?_⟩, h1, Nat.le_trans h1 h2⟩
    · have hc0 := hc j (by omega)
      rw [List.getElem?_map, List.getElem?_eq_getElem hj] at hc0
      have := block_lt_of_cell hc0
      exact this
    · have hc0 := hc j (by omega)
      rw [List.getElem?_map, List.getElem?_eq_getElem hj] at hc0
      have e : (⟨g, 0, none⟩ : Addr).add j = ⟨g, j, none⟩ := by unfold Addr.add; split <;> simp_all
      rw [e, hc0, List.getD_eq_getElem?_getD, List.getElem?_eq_getElem hj]
      rfl
theorem bcells_eq (l : List Nat) : bcells l = (bcast l).map (Value.int .u8) := by unfold bcells bcast; rw [List.map_map]; rfl
theorem icells_eq (l : List Nat) : icells l = (bcast l).map (Value.int .i64) := by unfold icells bcast; rw [List.map_map]; rfl
set_option maxHeartbeats 400000 in
theorem same_ints (A A' : Option Addr) (n c c' : Nat) (zs : List Int) (w : World) (hr : Rd .i64 w w.heap.size A zs) (hr' : Rd .i64 w w.heap.size A' zs) (hl : zs.length = n) (hn : n ≤ maxLen) :
    Calls Try.prog 20 #[.slice A n c, .slice A' n c'] w fun e w' => e = .returned (.bool true) ∧ Below w.heap.size w w' := by
  unfold maxLen at hn
  have L := Lib.hid hl
  have R := Lib.hid hr
  have R' := Lib.hid hr'
  clear hl hr hr'
  go_enter Try.func20, Try.ntmps20
  go_wp2
  go_loopw [13] (fun i wr => ∃ k : Nat, k ≤ n ∧ i = .int .i64 k ∧ Below w.heap.size w wr) (fun i _ => n - (intOf i).toNat)
  case atStart => exact ⟨0, Nat.zero_le _, rfl, Below.refl _ _⟩
  case round =>
    obtain ⟨k, hk, rfl, hnx⟩ := hrel
    by_cases hlt : k < n
    · obtain ⟨ad, rfl, hb, hc⟩ := R.out k (by rw [L.out]; exact hlt)
      obtain ⟨ad', rfl, hb', hc'⟩ := R'.out k (by rw [L.out]; exact hlt)
      obtain ⟨z, hz⟩ : ∃ z, z = zs.getD k 0 := ⟨_, rfl⟩
      rw [← hz] at hc hc'
      have d := (hnx.cell (by rw [add_block]; exact hb)).trans hc
      have d' := (hnx.cell (by rw [add_block]; exact hb')).trans hc'
      clear hz hc hc' hb hb'
      go_wp2
      go_quiet (fail)
      go_wp2
      go_roundw
      case rel => exact ⟨k + 1, by omega, by go_num, below_drewN hnx _⟩
      case measure => simp [intOf]; omega
    · obtain rfl : k = n := by omega
      go_wp2
      go_ret
      exact ⟨rfl, hnx⟩
/-! ### Set -/
def setTo (zs : List Int) (k : Nat) : Nat := (zs.take k).foldl withN 0
theorem setTo_U (zs : List Int) (k : Nat) : U64 (setTo zs k) := by
  unfold setTo
  generalize zs.take k = l
  have : ∀ (l : List Int) (s : Nat), U64 s → U64 (l.foldl withN s) := by
    intro l
    induction l with
    | nil => intro s hs; exact hs
    | cons a l ih => intro s hs; exact ih _ (withN_U _ _ hs)
  exact this l 0 (by unfold U64; omega)
theorem setTo_succ (zs : List Int) (k : Nat) (h : k < zs.length) : setTo zs (k + 1) = withN (setTo zs k) (zs.getD k 0) := by
  unfold setTo
  rw [List.take_succ_eq_append_getElem h, List.foldl_append]
  simp only [List.foldl_cons, List.foldl_nil, List.getD_eq_getElem?_getD, List.getElem?_eq_getElem h, Option.getD_some]
/-- the first k numbers are from 0 to 63 -/
def okTo (zs : List Int) (k : Nat) : Prop := ∀ j, j < k → 0 ≤ zs.getD j 0 ∧ zs.getD j 0 ≤ 63
def okB (zs : List Int) : Bool := zs.all fun z => decide (0 ≤ z) && decide (z ≤ 63)
theorem okB_iff (zs : List Int) : okB zs = true ↔ okTo zs zs.length := by
  unfold okB okTo
  rw [List.all_eq_true]
  constructor
  · intro h j hj
    have := h zs[j] (List.getElem_mem hj)
    rw [List.getD_eq_getElem?_getD, List.getElem?_eq_getElem hj]
    simpa using this
  · intro h z hz
    obtain ⟨j, hj, rfl⟩ := List.getElem_of_mem hz
    have := h j hj
    rw [List.getD_eq_getElem?_getD, List.getElem?_eq_getElem hj] at this
    simpa using this
/-- what Set answers: the set and 0, or 0 and 1 -/
def setV (zs : List Int) : Nat := if okB zs then setTo zs zs.length else 0
def setE (zs : List Int) : Nat := if okB zs then 0 else 1
theorem setV_ok (zs : List Int) (h : okTo zs zs.length) : setV zs = setTo zs zs.length ∧ setE zs = 0 := by
  have h := (okB_iff zs).2 h
  unfold setV setE; rw [if_pos h, if_pos h]; exact ⟨rfl, rfl⟩
theorem setV_no (zs : List Int) (k : Nat) (hk : k < zs.length) (h : ¬ (0 ≤ zs.getD k 0 ∧ zs.getD k 0 ≤ 63)) : setV zs = 0 ∧ setE zs = 1 := by
  have : ¬ okB zs = true := fun h' => h ((okB_iff zs).1 h' k hk)
  unfold setV setE; rw [if_neg this, if_neg this]; exact ⟨rfl, rfl⟩
theorem setV_U (zs : List Int) : U64 (setV zs) := by unfold setV; split; exact setTo_U _ _; unfold U64; omega
theorem okTo_succ (zs : List Int) (k : Nat) (h : okTo zs k) (h0 : 0 ≤ zs.getD k 0) (h1 : zs.getD k 0 ≤ 63) : okTo zs (k + 1) := fun j hj => by
  by_cases e : j = k
  · subst e; exact ⟨h0, h1⟩
  · exact h j (by omega)
set_option maxHeartbeats 400000 in
theorem set_any (A : Option Addr) (n c : Nat) (zs : List Int) (B : Nat) (w : World) (hr : Rd .i64 w B A zs) (hl : zs.length = n) (hn : n ≤ maxLen) :
    Calls Try.prog 18 #[.slice A n c] w fun e w' => e = .returned (.tuple #[.int .u64 (setV zs : Nat), .int .i64 (setE zs : Nat)]) ∧ w = w' := by
  unfold maxLen at hn
  have L := Lib.hid hl
  have R := Lib.hid hr
  clear hl hr
  go_enter Try.func18, Try.ntmps18
  go_wp2
  go_loop [4, 9] (fun s i => ∃ k : Nat, k ≤ n ∧ i = .int .i64 k ∧ s = .int .u64 (setTo zs k : Nat) ∧ okTo zs k) (fun _ i => n - (intOf i).toNat)
  case atStart => exact ⟨0, Nat.zero_le _, rfl, rfl, fun j hj => absurd hj (by omega)⟩
  case round =>
    obtain ⟨k, hk, rfl, rfl, hok⟩ := hrel
    have O := Lib.hid hok
    clear hok
    have sU := setTo_U zs k
    by_cases hlt : k < n
    · obtain ⟨ad, rfl, hb, hc⟩ := R.out k (by rw [L.out]; exact hlt)
      obtain ⟨z, hz⟩ : ∃ z, z = zs.getD k 0 := ⟨_, rfl⟩
      rw [← hz] at hc
      have Z := Lib.hid hz
      clear hz hb
      by_cases hz1 : 0 ≤ z ∧ z ≤ 63
      · have F : fitsB z = true := by unfold fitsB; simpa using hz1
        have S := Lib.hid (setTo_succ zs k (by rw [L.out]; exact hlt))
        have Q := Lib.hid (okTo_succ zs k O.out (by rw [← Z.out]; exact hz1.1) (by rw [← Z.out]; exact hz1.2))
        clear hz1
        go_wp2_with (first | (go_at_call 55; refine (fits_any _ _).mono ?_; rintro e w' ⟨rfl, rfl⟩) | (go_at_call 29; refine (with_any _ _ _ sU).mono ?_; rintro e w' ⟨rfl, rfl⟩))
        go_round
        case rel => exact ⟨k + 1, by omega, by go_num, by rw [S.out, ← Z.out], Q.out⟩
        case measure => simp [intOf]; omega
      · have F : fitsB z = false := by unfold fitsB; simpa using hz1
        have E := Lib.hid (setV_no zs k (by rw [L.out]; exact hlt) (by rw [← Z.out]; exact hz1))
        clear hz1
        go_wp2_with (go_at_call 55; refine (fits_any _ _).mono ?_; rintro e w' ⟨rfl, rfl⟩)
        go_ret2
        exact ⟨by rw [E.out.1, E.out.2]; rfl, rfl⟩
    · obtain rfl : k = n := by omega
      have E := Lib.hid (setV_ok zs (by rw [L.out]; exact O.out))
      go_wp2
      go_ret2
      exact ⟨by rw [E.out.1, E.out.2, L.out]; rfl, rfl⟩
set_option maxHeartbeats 400000 in
theorem rset_any (A : Option Addr) (n c : Nat) (zs : List Int) (B : Nat) (w : World) (hr : Rd .i64 w B A zs) (hl : zs.length = n) (hn : n ≤ maxLen) :
    Calls Try.prog 19 #[.slice A n c] w fun e w' => e = .returned (.tuple #[.int .u64 (setV zs : Nat), .int .i64 (setE zs : Nat)]) ∧ w = w' := by
  unfold maxLen at hn
  have L := Lib.hid hl
  have R := Lib.hid hr
  clear hl hr
  go_enter Try.func19, Try.ntmps19
  go_wp2
  go_loop [4, 9] (fun s i => ∃ k : Nat, k ≤ n ∧ i = .int .i64 k ∧ s = .int .u64 (setTo zs k : Nat) ∧ okTo zs k) (fun _ i => n - (intOf i).toNat)
  case atStart => exact ⟨0, Nat.zero_le _, rfl, rfl, fun j hj => absurd hj (by omega)⟩
  case round =>
    obtain ⟨k, hk, rfl, rfl, hok⟩ := hrel
    have O := Lib.hid hok
    clear hok
    have sU := setTo_U zs k
    by_cases hlt : k < n
    · obtain ⟨ad, rfl, hb, hc⟩ := R.out k (by rw [L.out]; exact hlt)
      obtain ⟨z, hz⟩ : ∃ z, z = zs.getD k 0 := ⟨_, rfl⟩
      rw [← hz] at hc
      have Z := Lib.hid hz
      clear hz hb
      by_cases hz0 : z < 0
      · have E := Lib.hid (setV_no zs k (by rw [L.out]; exact hlt) (by rw [← Z.out]; omega))
        go_wp2
        go_ret2
        exact ⟨by rw [E.out.1, E.out.2]; rfl, rfl⟩
      · by_cases hz1 : 63 < z
        · have E := Lib.hid (setV_no zs k (by rw [L.out]; exact hlt) (by rw [← Z.out]; omega))
          go_wp2
          go_ret2
          exact ⟨by rw [E.out.1, E.out.2]; rfl, rfl⟩
        · have S := Lib.hid (setTo_succ zs k (by rw [L.out]; exact hlt))
          have Q := Lib.hid (okTo_succ zs k O.out (by rw [← Z.out]; omega) (by rw [← Z.out]; omega))
          go_wp2_with (go_at_call 30; refine (rwith_any _ _ _ sU).mono ?_; rintro e w' ⟨rfl, rfl⟩)
          go_round
          case rel => exact ⟨k + 1, by omega, by go_num, by rw [S.out, ← Z.out], Q.out⟩
          case measure => simp [intOf]; omega
    · obtain rfl : k = n := by omega
      have E := Lib.hid (setV_ok zs (by rw [L.out]; exact O.out))
      go_wp2
      go_ret2
      exact ⟨by rw [E.out.1, E.out.2, L.out]; rfl, rfl⟩
end Go.Proofs.Ytpahkgcndlccnaa
