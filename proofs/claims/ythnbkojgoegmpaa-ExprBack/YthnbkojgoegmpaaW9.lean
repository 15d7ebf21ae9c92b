/- The document's Get; whether two slices of bytes are the same. -/
import Derived.Test.YthnbkojgoegmpaaW8
namespace Go.Proofs.Ythnbkojgoegmpaa
open Go.RowKit
def wpN (k : Nat) : Nat := 2 ^ (7 * k)
theorem rgroup_walk (k acc c : Nat) (h : acc < 2 ^ (7 * k)) (hk : k ≤ 9) (hc : ¬ (k = 9 ∧ 1 < c)) :
    IntKind.u64.wrap ((acc : Int) + IntKind.u64.wrap ((c : Int) % 128 * ((wpN k : Nat) : Int))) = ((acc + c % 128 * 2 ^ (7 * k) : Nat) : Int) := by
  have e := shl_group k c hk hc
  rw [pow_cast] at e
  rw [show ((c : Int) % 128) = ((c % 128 : Nat) : Int) from by omega, show wpN k = 2 ^ (7 * k) from rfl, e, ← Int.natCast_add]
  exact wrapu64_nat _ (group_U k acc c h hk hc)
theorem worth_walk (k : Nat) (hk : k ≤ 8) : IntKind.u64.wrap (((wpN k : Nat) : Int) * 128) = ((wpN (k + 1) : Nat) : Int) := by
  have e : wpN (k + 1) = wpN k * 128 := by unfold wpN; rw [show 7 * (k + 1) = 7 * k + 7 from by omega, Nat.pow_add]
  have b : wpN (k + 1) < 2 ^ 64 := Nat.pow_lt_pow_right (by decide) (by omega)
  rw [e] at b ⊢
  rw [IntKind.wrap_u64]
  omega
set_option maxHeartbeats 4000000 in
set_option maxRecDepth 100000 in
theorem rget_any (A : Option Addr) (n cap : Nat) (bs : List Nat) (B : Nat) (w : World) (hl : bs.length = n) (hb : Bytes bs) (hr : Rd .u8 w B A (bcast bs)) (hn : n ≤ maxLen) :
    Calls Try.prog 77 #[.slice A n cap] w fun e w' => e = .returned (.tuple #[.int .u64 ((getN bs).val : Nat), .int .i64 ((getN bs).len : Nat), .int .i64 ((getN bs).err : Nat)]) ∧ w = w' := by
  unfold maxLen at hn
  have L := Lib.hid hl
  have hk0 : ∀ k, k < n → ∃ (ad : Addr) (c : Nat), A = some ad ∧ w.cell? (ad.add k) = some (.int .u8 (c : Int)) ∧ c < 256 ∧ bs.drop k = c :: bs.drop (k + 1) := fun k hk => by
    obtain ⟨ad, e, hc⟩ := hr.byte k (by omega)
    refine ⟨ad, _, e, hc, hb.get k, ?_⟩
    rw [List.drop_eq_getElem_cons (by omega : k < bs.length), List.getD_eq_getElem?_getD, List.getElem?_eq_getElem (by omega)]; rfl
  have R := Lib.hid hk0
  clear hl hk0 hr
  go_enter Try.func77, Try.ntmps77
  go_wp2
  go_loop [5, 6, 7] (fun h p i => ∃ k acc : Nat, k ≤ n ∧ k ≤ 9 ∧ i = .int .i64 k ∧ h = .int .u64 acc ∧ p = .int .u64 (wpN k : Nat) ∧ acc < 2 ^ (7 * k) ∧ getN bs = getF k acc (bs.drop k)) (fun _ _ i => n - (intOf i).toNat)
  case atStart => exact ⟨0, 0, Nat.zero_le _, Nat.zero_le _, rfl, rfl, rfl, by decide, rfl⟩
  case round =>
    obtain ⟨k, acc, hk, hk9, rfl, rfl, rfl, hacc, hg⟩ := hrel
    have G := Lib.hid hg
    have AC := Lib.hid hacc
    clear hg hacc
    by_cases hlt : k < n
    · obtain ⟨ad, c, rfl, hc, hc256, hd⟩ := R.out k hlt
      have D := Lib.hid hd
      clear hd
      by_cases hT : k = 9 ∧ 1 < c
      · obtain ⟨h9, hc1⟩ := hT
        have b9 : ((k : Int) == 9) = true := by rw [beq_iff_eq]; omega
        have E := Lib.hid (getF_tenth k acc c (bs.drop (k + 1)) ⟨h9, hc1⟩)
        clear h9
        go_wp2
        go_ret3
        exact ⟨by rw [G.out, D.out, E.out]; rfl, rfl⟩
      · have W := Lib.hid (rgroup_walk k acc c AC.out hk9 hT)
        by_cases hM : 128 ≤ c
        · have h9 : ¬ k = 9 := by omega
          have b9 : ((k : Int) == 9) = false := by rw [beq_eq_false_iff_ne]; omega
          have E := Lib.hid (getF_more k acc c (bs.drop (k + 1)) hT hM)
          have AL := Lib.hid (group_lt k acc c AC.out)
          have V := Lib.hid (worth_walk k (by omega))
          clear hT h9
          go_wp2
          go_round
          case rel => exact ⟨k + 1, acc + c % 128 * 2 ^ (7 * k), by omega, by have := ne_of_beq_false b9; omega, by go_num, by rw [W.out], by rw [V.out], AL.out, by rw [G.out, D.out, E.out]⟩
          case measure => simp [intOf]; omega
        · by_cases hZ : c = 0 ∧ 0 < k
          · have E := Lib.hid (getF_zero k acc c (bs.drop (k + 1)) hT hM hZ)
            obtain ⟨hz0, hkp⟩ := hZ
            have bz : ((c : Int) == 0) = true := by rw [beq_iff_eq]; omega
            have hc1 : ¬ (1 : Int) < (c : Int) := by omega
            clear hT hz0
            by_cases h9 : k = 9
            · have b9 : ((k : Int) == 9) = true := by rw [beq_iff_eq]; omega
              clear h9
              go_wp2
              go_ret3
              exact ⟨by rw [G.out, D.out, E.out]; rfl, rfl⟩
            · have b9 : ((k : Int) == 9) = false := by rw [beq_eq_false_iff_ne]; omega
              clear h9
              go_wp2
              go_ret3
              exact ⟨by rw [G.out, D.out, E.out]; rfl, rfl⟩
          · have E := Lib.hid (getF_last k acc c (bs.drop (k + 1)) hT hM hZ)
            have F : Hid (getN bs = ⟨acc + c % 128 * 2 ^ (7 * k), k + 1, 0⟩) := by show getN bs = _; rw [G.out, D.out, E.out]
            by_cases h9 : k = 9
            · have b9 : ((k : Int) == 9) = true := by rw [beq_iff_eq]; omega
              have hc1 : ¬ (1 : Int) < (c : Int) := by omega
              have bz : ((c : Int) == 0) = false := by rw [beq_eq_false_iff_ne]; omega
              clear h9 hT hZ
              go_wp2
              go_ret3
              exact ⟨by rw [F.out]; exact ret_three W.out rfl rfl, rfl⟩
            · have b9 : ((k : Int) == 9) = false := by rw [beq_eq_false_iff_ne]; omega
              by_cases hc0 : c = 0
              · have bz : ((c : Int) == 0) = true := by rw [beq_iff_eq]; omega
                have hk0 : ¬ 0 < k := fun h => hZ ⟨hc0, h⟩
                clear h9 hT hZ hc0
                go_wp2
                go_ret3
                exact ⟨by rw [F.out]; exact ret_three W.out rfl rfl, rfl⟩
              · have bz : ((c : Int) == 0) = false := by rw [beq_eq_false_iff_ne]; omega
                clear h9 hT hZ hc0
                go_wp2
                go_ret3
                exact ⟨by rw [F.out]; exact ret_three W.out rfl rfl, rfl⟩
    · obtain rfl : k = n := by omega
      have F : Hid (getN bs = ⟨0, 0, 10⟩) := by show getN bs = _; rw [G.out, List.drop_eq_nil_of_le (Nat.le_of_eq L.out), getF_end]
      go_wp2
      go_ret3
      exact ⟨by rw [F.out]; rfl, rfl⟩
/-! ### two slices of the same bytes -/
def bstr (bs : List Nat) : ByteArray := strOfNums (bcast bs)
theorem conv_bytes {A : Option Addr} {n c : Nat} {bs : List Nat} {B : Nat} {w : World} (hl : bs.length = n) (hr : Rd .u8 w B A (bcast bs)) :
    (convert 34 9 (.slice A n c)).run Try.prog w = .ok (.string (bstr bs)) w := by
  cases A with
  | none =>
    have e : bs = [] := by
      cases bs with
      | nil => rfl
      | cons b r =>
        obtain ⟨ad, h, _⟩ := hr 0 (by simp [bcast])
        cases h
    subst e
    rw [run_convert_bytes_nil w 34 5 Try.underlying34 Try.underlying5 n c 9 Try.underlying9]
    rfl
  | some ad =>
    have hlen : (bcast bs).length = n := by rw [bcast_len]; exact hl
    have h : (loadCells ad n).run Try.prog w = .ok ((bcast bs).map (Value.int .u8)).toArray w := by
      have := run_loadCells_list (P := Try.prog) w ad ((bcast bs).map (Value.int .u8)) (fun j v hj => by
        have hjl : j < (bcast bs).length := by
          rcases Nat.lt_or_ge j (bcast bs).length with h | h
          · exact h
          · rw [List.getElem?_eq_none (by simpa using h)] at hj; cases hj
        obtain ⟨ad', e, _, hc⟩ := hr j hjl
        injection e with e
        subst e
        rw [hc]
        rw [List.getElem?_map, List.getElem?_eq_getElem hjl] at hj
        simp at hj
        rw [← hj, List.getD_eq_getElem?_getD, List.getElem?_eq_getElem hjl]
        rfl)
      rw [List.length_map, hlen] at this
      exact this
    rw [run_convert_bytes_string w 34 9 5 _ n c Try.underlying34 Try.underlying5 Try.underlying9, run_bytesToString w _ n c (bcast bs) h, foldl_push_bytes]
    simp [bstr, strOfNums, ByteArray.empty, ByteArray.emptyWithCapacity]
    rfl
end Go.Proofs.Ythnbkojgoegmpaa
