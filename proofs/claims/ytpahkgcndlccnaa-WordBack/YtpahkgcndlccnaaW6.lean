/- WordGrows: a digest goes on byte by byte. -/
import Derived.Test.YtpahkgcndlccnaaW5
namespace Go.Proofs.Ytpahkgcndlccnaa
open Go.RowKit
theorem digS_cast : (14695981039346656037 : Int) = ((digS : Nat) : Int) := by unfold digS; omega
theorem zero_U : U64 0 := by unfold U64; omega
theorem one_U : U64 1 := by unfold U64; omega
theorem two_U : U64 2 := by unfold U64; omega
theorem digN_nil : digN [] = mixN digS 0 := by rw [digN]; unfold digTo; rw [List.take_nil, List.foldl_nil, List.length_nil]
theorem digN_take (bs : List Nat) (k : Nat) (h : k ≤ bs.length) : digN (bs.take k) = mixN (digTo bs k) k := by
  rw [digN]
  unfold digTo
  rw [List.length_take, Nat.min_eq_left h, List.take_take, Nat.min_self]
theorem Bytes.take {bs : List Nat} (h : Bytes bs) (k : Nat) : Bytes (bs.take k) := fun b hb => h b (List.mem_of_mem_take hb)
theorem bcast_take (bs : List Nat) (k : Nat) : bcast (bs.take k) = (bcast bs).take k := by unfold bcast; rw [List.map_take]
set_option maxHeartbeats 1000000 in
theorem grows_any (a0 : Option Addr) (len0 cap0 : Nat) (bs : List Nat) (w : World) (hl : bs.length = len0) (hb : Bytes bs) (hr : Rd .u8 w w.heap.size a0 (bcast bs)) (hcap : len0 ≤ cap0) (hm : len0 ≤ maxLen) :
    Calls Try.prog 15 #[.slice a0 len0 cap0] w fun e w' => e = .returned (.bool true) ∧ w = w' := by
  have hnU := len_U len0 hm
  have M := Lib.hid hm
  unfold maxLen at hm
  have L := Lib.hid hl
  have R := Lib.hid hr
  have Z := Lib.hid (show digTo bs 0 = digS by unfold digTo; rw [List.take_zero, List.foldl_nil])
  have hk0 : ∀ k, k < len0 → ∃ (ad : Addr) (c : Nat), a0 = some ad ∧ w.cell? (ad.add k) = some (.int .u8 (c : Int)) ∧ c < 256 ∧ digTo bs (k + 1) = mixN (digTo bs k) c := fun k hk => by
    obtain ⟨ad, e, hc⟩ := hr.byte k (by omega)
    exact ⟨ad, _, e, hc, hb.get k, digTo_succ bs k (by omega)⟩
  have K := Lib.hid hk0
  clear hl hr hk0
  go_enter Try.func15, Try.ntmps15
  go_wp2_with fail
  refine (digest_any _ _ _ [] 0 _ rfl (fun b hb => absurd hb (by simp)) (Rd.nil _ _ _ _) (Nat.zero_le _)).mono ?_
  rintro e w' ⟨rfl, rfl⟩
  rw [digN_nil]
  go_wp2_with fail
  rw [digS_cast]
  refine (mix_any digS 0 _ digS_U zero_U).mono ?_
  rintro e w' ⟨rfl, rfl⟩
  go_wp2_with fail
  refine (mix_any 1 2 _ one_U two_U).mono ?_
  rintro e w' ⟨rfl, rfl⟩
  go_wp2_with fail
  refine (rmix_any 1 2 _ one_U two_U).mono ?_
  rintro e w' ⟨rfl, rfl⟩
  go_wp2_with fail
  go_loop [3, 17] (fun h i => ∃ k : Nat, k ≤ len0 ∧ i = .int .i64 k ∧ h = .int .u64 (digTo bs k : Nat)) (fun _ i => len0 - (intOf i).toNat)
  case atStart => exact ⟨0, Nat.zero_le _, rfl, by rw [Z.out]⟩
  case round =>
    obtain ⟨k, hk, rfl, rfl⟩ := hrel
    by_cases hlt : k < len0
    · obtain ⟨ad, c, rfl, hc, hc256, hd⟩ := K.out k hlt
      have D := Lib.hid hd
      have cU := byte_U c hc256
      clear hd
      go_wp2_with fail
      refine (mix_any _ _ _ (digTo_U _ _) cU).mono ?_
      rintro e w' ⟨rfl, rfl⟩
      rw [← D.out]
      by_cases h40 : k < 40
      · have E := Lib.hid (digN_take bs (k + 1) (by have := L.out; omega))
        have kU := len_U (k + 1) (by unfold maxLen; omega)
        go_wp2_with fail
        refine (digest_any _ (k + 1) _ (bs.take (k + 1)) w.heap.size _ (by rw [List.length_take, L.out]; omega) (hb.take _) (by rw [bcast_take]; exact R.out.take _) (by unfold maxLen; omega)).mono ?_
        rintro e w' ⟨rfl, rfl⟩
        rw [E.out]
        go_wp2_with fail
        rw [show ((k : Int) + 1) = ((k + 1 : Nat) : Int) from by omega]
        refine (mix_any (digTo bs (k + 1)) (k + 1) _ (digTo_U _ _) kU).mono ?_
        rintro e w' ⟨rfl, rfl⟩
        go_wp2_with fail
        go_round
        case rel => exact ⟨k + 1, by omega, by go_num, rfl⟩
        case measure => simp [intOf]; omega
      · go_wp2_with fail
        go_round
        case rel => exact ⟨k + 1, by omega, by go_num, rfl⟩
        case measure => simp [intOf]; omega
    · obtain rfl : k = len0 := by omega
      go_wp2_with fail
      refine (digest_any _ _ _ bs _ _ L.out hb R.out M.out).mono ?_
      rintro e w' ⟨rfl, rfl⟩
      go_wp2_with fail
      refine (mix_any _ _ _ (digTo_U _ _) hnU).mono ?_
      rintro e w' ⟨rfl, rfl⟩
      rw [show digN bs = mixN (digTo bs k) k from by rw [digN, L.out]]
      go_wp2_with fail
      go_ret
      exact ⟨rfl, rfl⟩
end Go.Proofs.Ytpahkgcndlccnaa
