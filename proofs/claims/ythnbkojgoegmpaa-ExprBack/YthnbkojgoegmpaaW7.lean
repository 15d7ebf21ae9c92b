/- Put and Get of package word, and the document's: what they return. -/
import Derived.Test.YthnbkojgoegmpaaW4
import Derived.Test.YthnbkojgoegmpaaMath3
namespace Go.Proofs.Ythnbkojgoegmpaa
open Go.RowKit
def bcells (l : List Nat) : List Value := l.map fun (n : Nat) => Value.int .u8 (n : Int)
theorem bcells_app (l m : List Nat) : bcells (l ++ m) = bcells l ++ bcells m := by simp [bcells]
theorem Try.info_byte : (Try.prog.info? 5).map (fun i => (i.zero, i.size, i.bytes)) = some (some (.int .u8 0), 1, 1) := by kernel_rfl
/-- bytes in memory of the call's own -/
def OwnBytes (w : World) (l : List Nat) (e : Ending) (w' : World) : Prop :=
  ∃ v, e = .returned v ∧ w'.ownsRow w.heap.size 5 1 v l.length (bcells l) ∧ Below w.heap.size w w'
/-- one byte put behind what is owned -/
theorem own_byte {w wr w1 : World} {B : Nat} {v v' : Value} {acc : List Nat} {o : Obj} {b : Nat} (hown : wr.ownsRow B 5 1 v acc.length (bcells acc)) (hb : Below B w wr) (hB : B ≤ w.heap.size)
    (hg : (wr.alloc o).grownBy w1 v.ownBlock) (hown' : w1.ownsRow B 5 1 v' (acc.length + 1) (bcells acc ++ [.int .u8 (b : Int)])) :
    w1.ownsRow B 5 1 v' (acc ++ [b]).length (bcells (acc ++ [b])) ∧ Below B w w1 :=
  ⟨by rw [bcells_app, List.length_append]; exact hown', own_step hown hb hB hg⟩
set_option maxHeartbeats 1000000 in
theorem put_any (n : Nat) (w : World) (hn : U64 n) :
    Calls Try.prog 52 #[.int .u64 n] w (OwnBytes w (putN n)) := by
  obtain ⟨i0, hi, hz0, hz1, hz2⟩ := info_parts Try.info_byte
  go_enter Try.func52, Try.ntmps52
  go_wp2_with (at_make; refine wpList_make_own _ rfl _ _ 34 rfl w.heap.size 5 i0 (.int .u8 0) 1 Try.underlying34 hi hz0 hz1 _ _ _ 10 rfl rfl rfl ?b2 ?b3 (Nat.le_refl _) ?_)
  case b2 => rw [hz2]; omega
  case b3 => unfold maxLen; omega
  intro w0 hown0 hgrow0
  have hb0 : Below w.heap.size w w0 := (Below.refl _ _).grown hgrow0 (Nat.le_refl _) (fun k h => by cases h)
  clear hgrow0
  go_wp2
  go_loopw [0, 3] (fun x v wr => ∃ (m : Nat) (acc : List Nat), x = .int .u64 m ∧ m < 2 ^ (64 - 7 * acc.length) ∧ 7 * acc.length ≤ 63 ∧ acc ++ putN m = putN n ∧ wr.ownsRow w.heap.size 5 1 v acc.length (bcells acc) ∧ Below w.heap.size w wr) (fun x _ _ => (intOf x).toNat)
  case atStart => exact ⟨n, [], rfl, hn, by simp, rfl, hown0, hb0⟩
  case round =>
    obtain ⟨m, acc, rfl, hm, hlen, hput, hown, hnx⟩ := hrel
    clear hown0 hb0
    have hmU : U64 m := Nat.lt_of_lt_of_le hm (Nat.pow_le_pow_right (by decide) (by omega))
    have M := Lib.hid hm
    have T := Lib.hid hput
    clear hm hput
    by_cases hlt : m ≤ 127
    · have P := Lib.hid (putN_small m hlt)
      have hw8 : IntKind.u8.wrap (m : Int) = (m : Int) := by rw [IntKind.wrap_u8]; omega
      go_wp2_with (at_builtin; refine wpList_append_own _ rfl _ _ 34 rfl w.heap.size 5 i0 (.int .u8 0) 1 1 Try.underlying34 hi hz0 hz1 hz2 rfl (by decide) _ _ _ rfl (hown.alloc _) ⟨wr.heap.size, 0, none⟩ 1 1 [.int .u8 (m : Int)] rfl rfl (cell_one_new _ _ _) ?c2 ?c3 ?c4 ?c5 ?_)
      case c2 => intro u hu; simp at hu; subst hu; rfl
      case c3 => unfold maxLen; omega
      case c4 => omega
      case c5 => have := hnx.size; simp; omega
      intro v' w1 hown' hgrow _
      obtain ⟨O, R⟩ := own_byte hown hnx (Nat.le_refl _) hgrow hown'
      have t := T.out
      rw [P.out] at t
      rw [t] at O
      clear hown' hgrow hown t
      go_wp2
      go_ret
      exact ⟨_, rfl, O, R⟩
    · obtain ⟨hr1, hr2⟩ := put_room m acc.length M.out hlen hlt
      have R1 := Lib.hid hr1
      have P := Lib.hid (putN_big m hmU hlt)
      obtain ⟨b, hb⟩ : ∃ b : Nat, b = m % 128 + 128 := ⟨_, rfl⟩
      have hw : bits .or .u64 (bits .and .u64 (m : Int) 127) 128 % 256 = (b : Int) := by
        have := put_walk m hmU
        rw [IntKind.wrap_u8] at this
        rw [this, hb]
      have C := Lib.hid hb
      clear hr1 hb
      go_wp2_with (at_builtin; refine wpList_append_own _ rfl _ _ 34 rfl w.heap.size 5 i0 (.int .u8 0) 1 1 Try.underlying34 hi hz0 hz1 hz2 rfl (by decide) _ _ _ rfl (hown.alloc _) ⟨wr.heap.size, 0, none⟩ 1 1 [.int .u8 (b : Int)] rfl rfl (cell_one_new _ _ _) ?d2 ?d3 ?d4 ?d5 ?_)
      case d2 => intro u hu; simp at hu; subst hu; rfl
      case d3 => unfold maxLen; omega
      case d4 => omega
      case d5 => have := hnx.size; simp; omega
      intro v' w1 hown' hgrow _
      obtain ⟨O, R⟩ := own_byte hown hnx (Nat.le_refl _) hgrow hown'
      have t : (acc ++ [b]) ++ putN (m / 128) = putN n := by
        rw [← T.out, P.out, C.out, List.append_assoc]; rfl
      have T2 := Lib.hid t
      have L2 := Lib.hid (show (acc ++ [b]).length = acc.length + 1 by simp)
      clear hown' hgrow hown t hw
      go_wp2
      go_roundw
      case rel => exact ⟨m / 128, acc ++ [b], by go_num, by rw [L2.out]; exact R1.out, by rw [L2.out]; exact hr2, T2.out, O, R⟩
      case measure => simp [intOf]; omega
end Go.Proofs.Ythnbkojgoegmpaa
