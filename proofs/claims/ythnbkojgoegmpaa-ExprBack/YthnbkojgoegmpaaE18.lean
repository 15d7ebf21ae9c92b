/- readHeads of package expr. -/
import Derived.Test.YthnbkojgoegmpaaE13
import Derived.Test.YthnbkojgoegmpaaT5
namespace Go.Proofs.Ythnbkojgoegmpaa
open Go.RowKit
def hcells (l : List Hd) : List Value := l.flatMap fun h => [.int .i64 h.k, .int .i64 h.i, .int .i64 (h.n : Int)]
theorem hcells_app (l m : List Hd) : hcells (l ++ m) = hcells l ++ hcells m := by simp [hcells]
theorem hcells_len (l : List Hd) : (hcells l).length = l.length * 3 := by
  induction l with
  | nil => rfl
  | cons x r ih => rw [show x :: r = [x] ++ r from rfl, hcells_app, List.length_append, ih]; simp [hcells]; omega
theorem infoH : (Try.prog.info? 82).map (fun i => (i.zero, i.size, i.bytes)) = some (some (.agg #[.int .i64 0, .int .i64 0, .int .i64 0]), 3, 24) := by kernel_rfl
def vlen : Value → Nat
  | .slice _ n _ => n
  | _ => 0
/-- what readHeads answers -/
def HeadsPost (w : World) (r : Except Nat (List Hd × Nat)) (e : Ending) (w' : World) : Prop :=
  Below w.heap.size w w' ∧ match r with
    | .error f => f ≠ 0 ∧ e = .returned (.tuple #[.slice none 0 0, .int .i64 0, .int .i64 (f : Int)])
    | .ok (hs, q) => ∃ v, e = .returned (.tuple #[v, .int .i64 (q : Int), .int .i64 0]) ∧ w'.ownsRow w.heap.size 82 3 v hs.length (hcells hs)
/-- hs have been read, m are asked for -/
def RdInv (bs : List Nat) (hs : List Hd) (m p : Nat) : Prop :=
  rdH bs 1000 1 0 = match rdH bs (1000 - hs.length) m p with
    | .error e => .error e
    | .ok (hs', q) => .ok (hs ++ hs', q)
theorem RdInv.step {bs : List Nat} {hs : List Hd} {m p : Nat} (h : RdInv bs hs (m + 1) p) (hl : hs.length < 1000) (he : (getN (bs.drop p)).err = 0) (hv : ¬ 4294967295 < (getN (bs.drop p)).val) :
    RdInv bs (hs ++ [hdOf (getN (bs.drop p)).val]) (m + (getN (bs.drop p)).val % 256) (p + (getN (bs.drop p)).len) := by
  unfold RdInv at *
  rw [h, show 1000 - hs.length = (1000 - (hs ++ [hdOf (getN (bs.drop p)).val]).length) + 1 by simp; omega, rdH_more _ _ _ _ he hv]
  cases rdH bs (1000 - (hs ++ [hdOf (getN (bs.drop p)).val]).length) (m + (getN (bs.drop p)).val % 256) (p + (getN (bs.drop p)).len) with
  | error e => rfl
  | ok x =>
    obtain ⟨a, b⟩ := x
    simp
theorem RdInv.err {bs : List Nat} {hs : List Hd} {m p : Nat} (h : RdInv bs hs (m + 1) p) (hl : hs.length < 1000) (he : (getN (bs.drop p)).err ≠ 0) : rdH bs 1000 1 0 = .error (getN (bs.drop p)).err := by
  unfold RdInv at h
  rw [h, show 1000 - hs.length = (1000 - (hs.length + 1)) + 1 by omega, rdH_err _ _ _ _ he]
theorem RdInv.big {bs : List Nat} {hs : List Hd} {m p : Nat} (h : RdInv bs hs (m + 1) p) (hl : hs.length < 1000) (he : (getN (bs.drop p)).err = 0) (hv : 4294967295 < (getN (bs.drop p)).val) : rdH bs 1000 1 0 = .error 11 := by
  unfold RdInv at h
  rw [h, show 1000 - hs.length = (1000 - (hs.length + 1)) + 1 by omega, rdH_big _ _ _ _ he hv]
theorem addr_add_add (a : Addr) (p j : Nat) : (a.add p).add j = a.add (p + j) := by
  unfold Addr.add
  by_cases h : p = 0
  · subst h; simp
  · by_cases h2 : j = 0
    · subst h2; simp [h]
    · simp [h, h2, Nat.add_assoc]
theorem Rd.drop {w : World} {B : Nat} {A : Option Addr} {bs : List Nat} (h : Rd .u8 w B A (bcast bs)) (p : Nat) : Rd .u8 w B (A.map fun x => x.add p) (bcast (bs.drop p)) := fun j hj => by
  rw [bcast_len, List.length_drop] at hj
  obtain ⟨ad, rfl, hlt, hc⟩ := h (p + j) (by rw [bcast_len]; omega)
  refine ⟨ad.add p, rfl, by rw [add_block]; exact hlt, ?_⟩
  rw [addr_add_add, hc, bcast_get, bcast_get]
  congr 2
  simp [List.getD_eq_getElem?_getD, List.getElem?_drop]
theorem Rd.none {w : World} {B : Nat} {bs : List Nat} (A : Option Addr) (h : bs.length = 0) : Rd .u8 w B A (bcast bs) := fun j hj => by rw [bcast_len] at hj; omega
theorem unpack_nat (v : Nat) (w : World) (h : v < 4294967296) :
    Calls Try.prog 76 #[.int .u32 (v : Int)] w fun e w' => e = .returned (.tuple #[.int .i64 ((v / 16777216 : Nat) : Int), .int .i64 ((v / 256 % 65536 : Nat) : Int), .int .i64 ((v % 256 : Nat) : Int)]) ∧ w = w' := by
  have := unpack_any (v : Int) w (by omega) (by omega)
  rw [show (v : Int) / 16777216 = ((v / 16777216 : Nat) : Int) by omega, show (v : Int) / 256 % 65536 = ((v / 256 % 65536 : Nat) : Int) by omega, show (v : Int) % 256 = ((v % 256 : Nat) : Int) by omega] at this
  exact this
theorem new3 (w : World) (x y z : Value) (t : TypeId) (j : Nat) (u : Value) (h : [x, y, z][j]? = some u) : (w.alloc (.cells #[x, y, z] t)).cell? ((⟨w.heap.size, 0, none⟩ : Addr).add j) = some u := by
  have e : (w.alloc (.cells #[x, y, z] t)).heap[w.heap.size]? = some (.cells #[x, y, z] t (0, 0)) := World.alloc_heap_new w _
  rw [addr_add0]
  unfold World.cell?
  rw [e]
  simpa using h
theorem own_head {w : World} {B : Nat} {e : TypeId} {size : Nat} {v : Value} {n : Nat} {xs : List Value} (h : w.ownsRow B e size v n xs) (hn : 0 < n) : ∃ g cap, v = .slice (some ⟨g, 0, none⟩) n cap := by
  rcases h.2 with ⟨_, e⟩ | ⟨g, cap, cur, rfl, _⟩
  · omega
  · exact ⟨g, cap, rfl⟩
set_option maxRecDepth 100000 in
set_option maxHeartbeats 2000000 in
theorem readHeads_any (A : Option Addr) (n cap : Nat) (bs : List Nat) (w : World) (hl : bs.length = n) (hb : Bytes bs) (hr : Rd .u8 w w.heap.size A (bcast bs)) (hn : n ≤ maxLen) (hc : n ≤ cap) :
    Calls Try.prog 54 #[.slice A n cap] w (HeadsPost w (rdH bs 1000 1 0)) := by
  obtain ⟨i0, hi, hz0, hz1, hzb⟩ := info_parts infoH
  have HR := Lib.hid hr
  have L := Lib.hid hl
  have hnx : n ≤ 9223372036854775807 := by unfold maxLen at hn; omega
  clear hr hl
  go_enter Try.func54, Try.ntmps54
  go_wp2_with fail
  go_loopw [5, 6, 7] (fun v s mi wr => ∃ (hs : List Hd) (p m : Nat) (A1 : Option Addr) (c1 : Nat), v = .slice A1 hs.length c1 ∧ s = .int .i64 p ∧ mi = .int .i64 m ∧ p ≤ n ∧ hs.length ≤ 1000 ∧ m ≤ 256 * hs.length + 1 ∧ RdInv bs hs m p ∧ wr.ownsRow w.heap.size 82 3 (.slice A1 hs.length c1) hs.length (hcells hs) ∧ Below w.heap.size w wr) (fun v _ _ _ => 1000 - vlen v)
  case atStart =>
    refine ⟨[], 0, 1, none, 0, rfl, rfl, rfl, Nat.zero_le _, Nat.zero_le _, Nat.le_refl _, ?_, World.ownsRow_nil _ _ _ _, Below.refl _ _⟩
    unfold RdInv
    simp only [List.length_nil, Nat.sub_zero, List.nil_append]
    cases rdH bs 1000 1 0 with
    | error e => rfl
    | ok x => rfl
  case round =>
    obtain ⟨hs, p, m, A1, c1, rfl, rfl, rfl, hp, hh, hm, hinv, hown, hbr⟩ := hrel
    have INV := Lib.hid hinv
    have OWN := Lib.hid hown
    clear hinv hown
    by_cases hm0 : m = 0
    · subst hm0
      have F := Lib.hid (show rdH bs 1000 1 0 = .ok (hs, p) by rw [INV.out, rdH_zero]; simp)
      go_wp2_with fail
      go_ret3
      exact ⟨hbr, by rw [F.out]; exact ⟨_, rfl, OWN.out⟩⟩
    · have hm1 : (0 : Int) < (m : Int) := by omega
      by_cases h1000 : hs.length = 1000
      · have F := Lib.hid (show rdH bs 1000 1 0 = .error 20 by
          rw [INV.out, h1000, Nat.sub_self]
          cases m with
          | zero => omega
          | succ m => rw [rdH_full])
        have h1000' : (hs.length : Int) = 1000 := by omega
        go_wp2_with fail
        go_ret3
        exact ⟨hbr, by rw [F.out]; exact ⟨by decide, rfl⟩⟩
      · have h1000' : ((hs.length : Int) == 1000) = false := by rw [beq_eq_false_iff_ne]; omega
        have hpi : (p : Int) ≤ (cap : Int) := by omega
        have hpc : p ≤ cap := by omega
        have RD1 := Lib.hid ((HR.out.keep hbr (Nat.le_refl _)).drop p)
        have LD := Lib.hid (show (bs.drop p).length = n - p by rw [List.length_drop, L.out])
        have BD : Bytes (bs.drop p) := fun b hb' => hb b (List.mem_of_mem_drop hb')
        have GB := Lib.hid (fun h => getN_back (bs.drop p) BD h)
        obtain ⟨m', rfl⟩ : ∃ m', m = m' + 1 := ⟨m - 1, by omega⟩
        have I1 := Lib.hid (INV.out.err (by omega))
        have I2 := Lib.hid (INV.out.big (by omega))
        have I3 := Lib.hid (INV.out.step (by omega))
        rcases Nat.eq_or_lt_of_le hpc with hcp | hcp
        · have E0 := Lib.hid (show getN (bs.drop p) = ⟨0, 0, 10⟩ by
            have e : bs.drop p = [] := List.eq_nil_of_length_eq_zero (by rw [LD.out]; omega)
            rw [e]; exact getF_end 0 0)
          have F := Lib.hid (show rdH bs 1000 1 0 = .error 10 by have := I1.out (by rw [E0.out]; decide); rw [E0.out] at this; exact this)
          clear hcp
          go_wp2_with fail
          all_goals
            refine (get_any _ _ _ (bs.drop p) w.heap.size _ LD.out BD (by first | exact RD1.out | exact Rd.none _ (by rw [LD.out]; omega)) (by unfold maxLen at *; omega)).mono ?_
            rintro e w' ⟨rfl, rfl⟩
            rw [E0.out]
            go_wp2_with fail
            go_ret3
            exact ⟨hbr, by rw [F.out]; exact ⟨by decide, rfl⟩⟩
        · go_wp2_with fail
          all_goals (try (exfalso; omega))
          refine (get_any _ _ _ (bs.drop p) w.heap.size _ LD.out BD (by first | exact RD1.out | exact Rd.none _ (by rw [LD.out]; omega)) (by unfold maxLen at *; omega)).mono ?_
          rintro e w' ⟨rfl, rfl⟩
          obtain ⟨v, hv⟩ : ∃ v, v = (getN (bs.drop p)).val := ⟨_, rfl⟩
          obtain ⟨l, hl⟩ : ∃ l, l = (getN (bs.drop p)).len := ⟨_, rfl⟩
          obtain ⟨f, hf⟩ : ∃ f, f = (getN (bs.drop p)).err := ⟨_, rfl⟩
          rw [← hv, ← hl, ← hf]
          rw [← hf] at I1
          rw [← hf, ← hv] at I2
          rw [← hf, ← hv, ← hl] at I3
          rw [← hv, ← hl, ← hf] at GB
          clear hv hl hf
          by_cases hf0 : f = 0
          · have gl := (GB.out hf0).2.2.1
            rw [LD.out] at gl
            have HF0 := Lib.hid hf0
            have hf1 : ((f : Int) != 0) = false := by rw [hf0]; rfl
            clear hf0
            obtain ⟨vi, hvi⟩ : ∃ vi : Int, vi = (v : Int) := ⟨_, rfl⟩
            rw [← hvi]
            by_cases hbig : 4294967295 < v
            · have hbig' : (4294967295 : Int) < vi := by omega
              have F := Lib.hid (I2.out HF0.out hbig)
              clear hbig gl hnx hvi
              go_wp2_with fail
              go_ret3
              exact ⟨hbr, by rw [F.out]; exact ⟨by decide, rfl⟩⟩
            · have hbig' : ¬ (4294967295 : Int) < vi := by omega
              have NI := Lib.hid (I3.out HF0.out hbig)
              have hw32 : IntKind.u32.wrap vi = vi := by rw [IntKind.wrap_u32]; omega
              have UN := Lib.hid (unpack_nat v wr (by omega))
              have HN := Lib.hid (show hcells [hdOf v] = [.int .i64 ((v / 16777216 : Nat) : Int), .int .i64 ((v / 256 % 65536 : Nat) : Int), .int .i64 ((v % 256 : Nat) : Int)] from rfl)
              obtain ⟨x, hx⟩ : ∃ x, x = v / 16777216 := ⟨_, rfl⟩
              obtain ⟨y, hy⟩ : ∃ y, y = v / 256 % 65536 := ⟨_, rfl⟩
              obtain ⟨z, hz⟩ : ∃ z, z = v % 256 := ⟨_, rfl⟩
              have hz2 : z < 256 := by omega
              rw [← hx, ← hy, ← hz] at UN HN
              rw [← hz] at NI
              rw [← hvi] at UN
              clear hx hy hz hbig hnx hvi
              go_wp2_with fail
              refine UN.out.mono ?_
              rintro e w' ⟨rfl, rfl⟩
              have hs3 := hbr.size
              go_wp2_with (at_builtin; refine wpList_append_own _ rfl _ _ 61 rfl w.heap.size 82 i0 _ 3 24 Try.underlying61 hi hz0 hz1 hzb rfl (by decide) _ _ _ rfl (OWN.out.alloc _) ⟨wr.heap.size, 0, none⟩ 1 1 [.int .i64 (x : Int), .int .i64 (y : Int), .int .i64 (z : Int)] rfl rfl (new3 _ _ _ _ _) ?c2 ?c3 ?c4 ?c5 ?_)
              case c2 => intro u hu; simp at hu; rcases hu with rfl | rfl | rfl <;> rfl
              case c3 => unfold maxLen; omega
              case c4 => omega
              case c5 => simp; omega
              intro v' w4 hown' hgrow _
              obtain ⟨g, cp, rfl⟩ := own_head hown' (by omega)
              have O4 := Lib.hid (show w4.ownsRow w.heap.size 82 3 (.slice (some ⟨g, 0, none⟩) (hs ++ [hdOf v]).length cp) (hs ++ [hdOf v]).length (hcells (hs ++ [hdOf v])) by rw [hcells_app, HN.out, List.length_append]; exact hown')
              have B4 := Lib.hid ((hbr.alloc hs3 _).grown hgrow (by simp; omega) (fun k hk => (OWN.out.lt k hk).1))
              have LH := Lib.hid (show (hs ++ [hdOf v]).length = hs.length + 1 by simp)
              have hq1 : p + l ≤ n := by omega
              have hn2 : n ≤ 9223372036854775807 := by unfold maxLen at hn; omega
              have hl1000 : hs.length < 1000 := by omega
              clear hown' hgrow OWN
              go_wp2_with fail
              go_roundw
              case rel => exact ⟨hs ++ [hdOf v], p + l, m' + z, some ⟨g, 0, none⟩, cp, by rw [LH.out], by go_num, by go_num, by omega, by rw [LH.out]; omega, by rw [LH.out]; omega, NI.out, O4.out, B4.out⟩
              case measure => simp [vlen]; omega
          · have hf1 : ((f : Int) != 0) = true := by rw [bne_iff_ne]; omega
            have F := Lib.hid (I1.out hf0)
            go_wp2_with fail
            go_ret3
            exact ⟨hbr, by rw [F.out]; exact ⟨hf0, rfl⟩⟩
end Go.Proofs.Ythnbkojgoegmpaa
