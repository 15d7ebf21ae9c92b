/- The walks of WordSevens and WordSets. -/
import Derived.Test.YtpahkgcndlccnaaW10
namespace Go.Proofs.Ytpahkgcndlccnaa
open Go.RowKit
theorem Rd.wide {k : IntKind} {w : World} {B B' : Nat} {A : Option Addr} {zs : List Int} (h : Rd k w B A zs) (hB : B ≤ B') : Rd k w B' A zs := fun j hj => by
  obtain ⟨ad, e, hlt, hc⟩ := h j hj
  exact ⟨ad, e, by omega, hc⟩
theorem OwnBytes.rd {w w' : World} {l : List Nat} {e : Ending} (h : OwnBytes w l e w') : ∃ A c, e = .returned (.slice A l.length c) ∧ Rd .u8 w' w'.heap.size A (bcast l) ∧ l.length ≤ c ∧ l.length ≤ maxLen ∧ Below w.heap.size w w' := by
  obtain ⟨v, rfl, hown, hb⟩ := h
  rw [bcells_eq] at hown
  obtain ⟨A, c, rfl, r, h1, h2⟩ := rd_of_own (bcast_len l) hown
  exact ⟨A, c, rfl, r, h1, h2, hb⟩
theorem OwnInts.rd {w w' : World} {l : List Nat} {e : Ending} (h : OwnInts w l e w') : ∃ A c, e = .returned (.slice A l.length c) ∧ Rd .i64 w' w'.heap.size A (bcast l) ∧ l.length ≤ c ∧ l.length ≤ maxLen ∧ Below w.heap.size w w' := by
  obtain ⟨v, rfl, hown, hb⟩ := h
  rw [icells_eq] at hown
  obtain ⟨A, c, rfl, r, h1, h2⟩ := rd_of_own (bcast_len l) hown
  exact ⟨A, c, rfl, r, h1, h2, hb⟩
set_option maxHeartbeats 1000000 in
theorem sevens_any (n : Nat) (A : Option Addr) (len cap : Nat) (bs : List Nat) (w : World) (hn : U64 n) (hl : bs.length = len) (hb : Bytes bs) (hr : Rd .u8 w w.heap.size A (bcast bs)) (hm : len ≤ maxLen) :
    Calls Try.prog 8 #[.int .u64 n, .slice A len cap] w fun e w' => e = .returned (.bool true) ∧ Below w.heap.size w w' := by
  have L := Lib.hid hl
  have R := Lib.hid hr
  have M := Lib.hid hm
  clear hl hr hm
  go_enter Try.func8, Try.ntmps8
  go_wp2_with fail
  refine (get_any _ _ _ bs _ _ L.out hb R.out M.out).mono ?_
  rintro e w' ⟨rfl, rfl⟩
  go_wp2_with fail
  refine (rget_any _ _ _ bs _ _ L.out hb R.out M.out).mono ?_
  rintro e w' ⟨rfl, rfl⟩
  go_wp2_with fail
  refine (put_any _ _ hn).mono ?_
  intro e w1 h1
  obtain ⟨A1, c1, rfl, r1, _, _, b1⟩ := h1.rd
  clear h1
  have R1 := Lib.hid r1
  clear r1
  go_wp2_with fail
  refine (rput_any _ _ hn).mono ?_
  intro e w2 h2
  obtain ⟨A2, c2, rfl, r2, _, _, b2⟩ := h2.rd
  clear h2
  have R2 := Lib.hid r2
  clear r2
  go_wp2_with fail
  refine (same_bytes _ _ _ _ _ _ (putN n) _ _ _ (R1.out.keep b2 (Nat.le_refl _)) R2.out rfl rfl).mono ?_
  rintro e w' ⟨rfl, rfl⟩
  go_wp2_with fail
  go_ret
  exact ⟨rfl, b1.trans (b2.mono b1.size)⟩
set_option maxHeartbeats 1000000 in
theorem sets_any (A : Option Addr) (len cap : Nat) (zs : List Int) (w : World) (hl : zs.length = len) (hr : Rd .i64 w w.heap.size A zs) (hm : len ≤ maxLen) :
    Calls Try.prog 3 #[.slice A len cap] w fun e w' => e = .returned (.bool true) ∧ Below w.heap.size w w' := by
  have L := Lib.hid hl
  have R := Lib.hid hr
  have M := Lib.hid hm
  have sU := setV_U zs
  clear hl hr hm
  go_enter Try.func3, Try.ntmps3
  go_wp2_with fail
  refine (set_any _ _ _ zs _ _ R.out L.out M.out).mono ?_
  rintro e w' ⟨rfl, rfl⟩
  go_wp2_with fail
  refine (rset_any _ _ _ zs _ _ R.out L.out M.out).mono ?_
  rintro e w' ⟨rfl, rfl⟩
  go_wp2_with fail
  refine (list_any _ _ sU).mono ?_
  intro e w1 h1
  obtain ⟨A1, c1, rfl, r1, _, _, b1⟩ := h1.rd
  clear h1
  have R1 := Lib.hid r1
  clear r1
  go_wp2_with fail
  refine (rlist_any _ _ sU).mono ?_
  intro e w2 h2
  obtain ⟨A2, c2, rfl, r2, _, m2, b2⟩ := h2.rd
  clear h2
  have R2 := Lib.hid r2
  have M2 := Lib.hid m2
  clear r2 m2
  go_wp2_with fail
  refine (same_ints _ _ _ _ _ (bcast (listN (setV zs))) _ ((R1.out.keep b2 (Nat.le_refl _)).wide b2.size) R2.out (bcast_len _) M2.out).mono ?_
  rintro e w3 ⟨rfl, b3⟩
  go_wp2_with fail
  refine (count_any _ _ sU).mono ?_
  rintro e w' ⟨rfl, rfl⟩
  go_wp2_with fail
  refine (rcount_any _ _ sU).mono ?_
  rintro e w4 ⟨rfl, b4⟩
  go_wp2_with fail
  refine (least_any _ _ sU).mono ?_
  rintro e w' ⟨rfl, rfl⟩
  go_wp2_with fail
  refine (rleast_any _ _ sU).mono ?_
  rintro e w5 ⟨rfl, b5⟩
  go_wp2_with fail
  go_ret
  have c2 := b1.trans (b2.mono b1.size)
  have c3 := c2.trans (b3.mono c2.size)
  have c4 := c3.trans (b4.mono c3.size)
  exact ⟨rfl, c4.trans (b5.mono c4.size)⟩
end Go.Proofs.Ytpahkgcndlccnaa
