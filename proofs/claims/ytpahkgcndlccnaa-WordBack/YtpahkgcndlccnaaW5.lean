/- The document's Mix; Digest of package word and the document's, of any slice of bytes. -/
import Derived.Test.YtpahkgcndlccnaaW4
namespace Go.Proofs.Ytpahkgcndlccnaa
open Go.RowKit
theorem rshr_walk (v : Nat) (h : U64 v) : IntKind.u64.wrap ((v : Int).tdiv 2147483648) = ((v / 2147483648 : Nat) : Int) := by
  have := div_U v 2147483648 h
  rw [Int.tdiv_eq_ediv_of_nonneg (Int.natCast_nonneg _), show ((v : Int) / 2147483648) = ((v / 2147483648 : Nat) : Int) from by omega]
  exact wrapu64_nat _ this
theorem rmix_eq (h x : Nat) : ((mulN (turnN (h ^^^ x) 27) ^^^ mulN (turnN (h ^^^ x) 27) / 2147483648 : Nat) : Int) = ((mixN h x : Nat) : Int) := by rw [mixN]
set_option maxHeartbeats 400000 in
theorem rmix_any (h x : Nat) (w : World) (hh : U64 h) (hx : U64 x) :
    Calls Try.prog 50 #[.int .u64 h, .int .u64 x] w fun e w' => e = .returned (.int .u64 (mixN h x : Nat)) ∧ w = w' := by
  have M := Lib.hid (mul_walk (turnN (h ^^^ x) 27))
  have S := Lib.hid (rshr_walk _ (mulN_U (turnN (h ^^^ x) 27)))
  have E := Lib.hid (rmix_eq h x)
  go_enter Try.func50, Try.ntmps50
  go_wp2_with fail
  refine (differ_any _ _ _ hh hx).mono ?_
  rintro e w' ⟨rfl, rfl⟩
  go_wp2_with fail
  refine (rturn_any _ _ _ (xor_U _ _ hh hx)).mono ?_
  rintro e w' ⟨rfl, rfl⟩
  go_wp2_with fail
  rw [M.out, S.out]
  refine (differ_any _ _ _ (mulN_U _) (div_U _ _ (mulN_U _))).mono ?_
  rintro e w' ⟨rfl, rfl⟩
  go_wp2_with fail
  go_ret
  exact ⟨ret_int E.out, rfl⟩
/-! ### Digest -/
def digS : Nat := 14695981039346656037
def digTo (bs : List Nat) (k : Nat) : Nat := (bs.take k).foldl mixN digS
def digN (bs : List Nat) : Nat := mixN (digTo bs bs.length) bs.length
theorem digTo_zero (bs : List Nat) : (14695981039346656037 : Int) = ((digTo bs 0 : Nat) : Int) := by
  unfold digTo
  rw [List.take_zero, List.foldl_nil]
  unfold digS
  omega
theorem foldl_take_succ (f : Nat → Nat → Nat) (s : Nat) (bs : List Nat) (k : Nat) (h : k < bs.length) : (bs.take (k + 1)).foldl f s = f ((bs.take k).foldl f s) (bs.getD k 0) := by
  rw [List.take_succ_eq_append_getElem h, List.foldl_append]
  simp only [List.foldl_cons, List.foldl_nil, List.getD_eq_getElem?_getD, List.getElem?_eq_getElem h, Option.getD_some]
theorem digTo_succ (bs : List Nat) (k : Nat) (h : k < bs.length) : digTo bs (k + 1) = mixN (digTo bs k) (bs.getD k 0) := by
  unfold digTo
  exact foldl_take_succ mixN digS bs k h
theorem digS_U : U64 digS := by unfold U64 digS; omega
theorem digTo_U (bs : List Nat) (k : Nat) : U64 (digTo bs k) := by
  unfold digTo
  generalize bs.take k = l
  have : ∀ (l : List Nat) (s : Nat), U64 s → U64 (l.foldl mixN s) := by
    intro l
    induction l with
    | nil => intro s hs; exact hs
    | cons a l ih => intro s hs; exact ih _ (mixN_U _ _)
  exact this l digS digS_U
theorem byte_U (c : Nat) (h : c < 256) : U64 c := by unfold U64; omega
theorem len_U (n : Nat) (h : n ≤ maxLen) : U64 n := by unfold U64; unfold maxLen at h; omega
set_option maxHeartbeats 400000 in
theorem digest_any (A : Option Addr) (n cap : Nat) (bs : List Nat) (B : Nat) (w : World) (hl : bs.length = n) (hb : Bytes bs) (hr : Rd .u8 w B A (bcast bs)) (hn : n ≤ maxLen) :
    Calls Try.prog 51 #[.slice A n cap] w fun e w' => e = .returned (.int .u64 (digN bs : Nat)) ∧ w = w' := by
  have hnU := len_U n hn
  unfold maxLen at hn
  have L := Lib.hid hl
  have Z := Lib.hid (digTo_zero bs)
  have hk0 : ∀ k, k < n → ∃ (ad : Addr) (c : Nat), A = some ad ∧ w.cell? (ad.add k) = some (.int .u8 (c : Int)) ∧ c < 256 ∧ digTo bs (k + 1) = mixN (digTo bs k) c := fun k hk => by
    obtain ⟨ad, e, hc⟩ := hr.byte k (by omega)
    exact ⟨ad, _, e, hc, hb.get k, digTo_succ bs k (by omega)⟩
  have R := Lib.hid hk0
  clear hl hk0 hr
  go_enter Try.func51, Try.ntmps51
  go_wp2
  go_loop [3, 8] (fun h i => ∃ k : Nat, k ≤ n ∧ i = .int .i64 k ∧ h = .int .u64 (digTo bs k : Nat)) (fun _ i => n - (intOf i).toNat)
  case atStart => exact ⟨0, Nat.zero_le _, rfl, by rw [← Z.out]⟩
  case round =>
    obtain ⟨k, hk, rfl, rfl⟩ := hrel
    by_cases hlt : k < n
    · obtain ⟨ad, c, rfl, hc, hc256, hd⟩ := R.out k hlt
      have D := Lib.hid hd
      have cU := byte_U c hc256
      clear hd
      go_wp2_with (go_at_call 49; refine (mix_any _ _ _ (digTo_U _ _) cU).mono ?_; rintro e w' ⟨rfl, rfl⟩)
      go_round
      case rel => exact ⟨k + 1, by omega, by go_num, by rw [D.out]⟩
      case measure => simp [intOf]; omega
    · obtain rfl : k = n := by omega
      go_wp2_with (go_at_call 49; refine (mix_any _ _ _ (digTo_U _ _) hnU).mono ?_; rintro e w' ⟨rfl, rfl⟩)
      go_ret
      exact ⟨ret_int (by rw [digN, L.out]), rfl⟩
set_option maxHeartbeats 400000 in
theorem rdigest_any (A : Option Addr) (n cap : Nat) (bs : List Nat) (B : Nat) (w : World) (hl : bs.length = n) (hb : Bytes bs) (hr : Rd .u8 w B A (bcast bs)) (hn : n ≤ maxLen) :
    Calls Try.prog 52 #[.slice A n cap] w fun e w' => e = .returned (.int .u64 (digN bs : Nat)) ∧ w = w' := by
  have hnU := len_U n hn
  unfold maxLen at hn
  have L := Lib.hid hl
  have Z := Lib.hid (digTo_zero bs)
  have hk0 : ∀ k, k < n → ∃ (ad : Addr) (c : Nat), A = some ad ∧ w.cell? (ad.add k) = some (.int .u8 (c : Int)) ∧ c < 256 ∧ digTo bs (k + 1) = mixN (digTo bs k) c := fun k hk => by
    obtain ⟨ad, e, hc⟩ := hr.byte k (by omega)
    exact ⟨ad, _, e, hc, hb.get k, digTo_succ bs k (by omega)⟩
  have R := Lib.hid hk0
  clear hl hk0 hr
  go_enter Try.func52, Try.ntmps52
  go_wp2
  go_loop [3, 8] (fun h i => ∃ k : Nat, k ≤ n ∧ i = .int .i64 k ∧ h = .int .u64 (digTo bs k : Nat)) (fun _ i => n - (intOf i).toNat)
  case atStart => exact ⟨0, Nat.zero_le _, rfl, by rw [← Z.out]⟩
  case round =>
    obtain ⟨k, hk, rfl, rfl⟩ := hrel
    by_cases hlt : k < n
    · obtain ⟨ad, c, rfl, hc, hc256, hd⟩ := R.out k hlt
      have D := Lib.hid hd
      have cU := byte_U c hc256
      clear hd
      go_wp2_with (go_at_call 50; refine (rmix_any _ _ _ (digTo_U _ _) cU).mono ?_; rintro e w' ⟨rfl, rfl⟩)
      go_round
      case rel => exact ⟨k + 1, by omega, by go_num, by rw [D.out]⟩
      case measure => simp [intOf]; omega
    · obtain rfl : k = n := by omega
      go_wp2_with (go_at_call 50; refine (rmix_any _ _ _ (digTo_U _ _) hnU).mono ?_; rintro e w' ⟨rfl, rfl⟩)
      go_ret
      exact ⟨ret_int (by rw [digN, L.out]), rfl⟩
end Go.Proofs.Ytpahkgcndlccnaa
