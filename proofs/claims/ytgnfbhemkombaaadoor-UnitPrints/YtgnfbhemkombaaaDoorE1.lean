/- A tree in memory: how a value of type Expr leads to its nodes; the document's Term, sizeUpTo. -/
import Derived.Test.YtgnfbhemkombaaaDoorRows
import Derived.Test.YtgnfbhemkombaaaDoorT2
import Derived.WalkKit
import Derived.Below
import Derived.Lib.Hide
namespace Go.Proofs.YtgnfbhemkombaaaDoor
open Go.RowKit
def Cap (c : Nat) : Prop := c * 40 ≤ 140737488351232
mutual
/-- in w, below block B, the slice (A, length, c) leads to the kids of t -/
def IsT (w : World) (B : Nat) : Tr → Option Addr → Nat → Prop
  | .node _ _ ks, A, c => ks.length ≤ c ∧ Cap ks.length ∧ IsK w B A 0 ks
def IsK (w : World) (B : Nat) (A : Option Addr) : Nat → List Tr → Prop
  | _, [] => True
  | j, .node k i ks :: r => (∃ b o A' c', A = some ⟨b, o, none⟩ ∧ b < B ∧ w.cell? ⟨b, o + j * 3, none⟩ = some (.int .i64 k) ∧ w.cell? ⟨b, o + j * 3 + 1, none⟩ = some (.int .i64 i) ∧
      w.cell? ⟨b, o + j * 3 + 2, none⟩ = some (.slice A' ks.length c') ∧ IsT w B (.node k i ks) A' c') ∧ IsK w B A (j + 1) r
end
theorem isT_eq {w : World} {B : Nat} {t : Tr} {A : Option Addr} {c : Nat} : IsT w B t A c ↔ t.ks.length ≤ c ∧ Cap t.ks.length ∧ IsK w B A 0 t.ks := by cases t; simp [IsT, Tr.ks]
/-- kid t lies at place j -/
def KidAt (w : World) (B : Nat) (A : Option Addr) (j : Nat) (t : Tr) : Prop :=
  ∃ b o A' c', A = some ⟨b, o, none⟩ ∧ b < B ∧ w.cell? ⟨b, o + j * 3, none⟩ = some (.int .i64 t.k) ∧ w.cell? ⟨b, o + j * 3 + 1, none⟩ = some (.int .i64 t.i) ∧
      w.cell? ⟨b, o + j * 3 + 2, none⟩ = some (.slice A' t.ks.length c') ∧ IsT w B t A' c'
theorem isK_cons {w : World} {B : Nat} {A : Option Addr} {j : Nat} {t : Tr} {r : List Tr} : IsK w B A j (t :: r) ↔ KidAt w B A j t ∧ IsK w B A (j + 1) r := by cases t; simp [IsK, KidAt, Tr.k, Tr.i, Tr.ks]
theorem isK_iff {w : World} {B : Nat} {A : Option Addr} : ∀ {ks : List Tr} {j : Nat}, IsK w B A j ks ↔ ∀ m (h : m < ks.length), KidAt w B A (j + m) ks[m]
  | [], j => by simp [IsK]
  | t :: r, j => by
    rw [isK_cons, isK_iff (ks := r)]
    constructor
    · rintro ⟨h0, h⟩ m hm
      cases m with
      | zero => exact h0
      | succ m => have := h m (by simpa using hm); simpa [Nat.add_assoc, Nat.add_comm 1 m] using this
    · intro h
      refine ⟨h 0 (by simp), fun m hm => ?_⟩
      have := h (m + 1) (by simpa using hm)
      simpa [Nat.add_assoc, Nat.add_comm 1 m] using this
theorem IsT.kid {w : World} {B : Nat} {t : Tr} {A : Option Addr} {c : Nat} (h : IsT w B t A c) (m : Nat) (hm : m < t.ks.length) : KidAt w B A m t.ks[m] := by
  have := isK_iff.1 (isT_eq.1 h).2.2 m hm
  simpa using this
theorem IsT.mk {w : World} {B : Nat} {t : Tr} {A : Option Addr} {c : Nat} (h1 : t.ks.length ≤ c) (h2 : Cap t.ks.length) (h : ∀ m (hm : m < t.ks.length), KidAt w B A m t.ks[m]) : IsT w B t A c :=
  isT_eq.2 ⟨h1, h2, isK_iff.2 fun m hm => by simpa using h m hm⟩
theorem IsT.len {w : World} {B : Nat} {t : Tr} {A : Option Addr} {c : Nat} (h : IsT w B t A c) : t.ks.length ≤ c ∧ t.ks.length * 40 ≤ 140737488351232 := ⟨(isT_eq.1 h).1, (isT_eq.1 h).2.1⟩
theorem IsT.keep {w w' : World} {B B' : Nat} (hb : Below B w w') (hB : B ≤ B') : ∀ (t : Tr) {A : Option Addr} {c : Nat}, IsT w B t A c → IsT w' B' t A c := by
  intro t
  induction t using Tr.ind with
  | h t ih =>
    intro A c h
    refine IsT.mk h.len.1 h.len.2 fun m hm => ?_
    obtain ⟨b, o, A', c', hA, hlt, h0, h1, h2, ht⟩ := h.kid m hm
    exact ⟨b, o, A', c', hA, by omega, (hb.cell hlt).trans h0, (hb.cell hlt).trans h1, (hb.cell hlt).trans h2, ih _ (List.getElem_mem hm) ht⟩
theorem ret_int {k : IntKind} {a b : Int} (h : a = b) : Ending.returned (.int k a) = .returned (.int k b) := by rw [h]
theorem cell_new3 (w : World) (cs : Array Value) (t : TypeId) (j : Nat) : (w.alloc (.cells cs t)).cell? ⟨w.heap.size, j, none⟩ = cs[j]? := by
  have : (w.alloc (.cells cs t)).heap[w.heap.size]? = some (.cells cs t (0, 0)) := by
    show (w.heap.push _)[w.heap.size]? = _
    simp
  unfold World.cell?
  rw [this]
  rfl
/-- the three cells of a box, in a later world -/
theorem box_cells {w w1 : World} {x y z : Value} {t : TypeId} (h : Below (w.heap.size + 1) (w.alloc (.cells #[x, y, z] t)) w1) :
    w1.cell? ⟨w.heap.size, 0, none⟩ = some x ∧ w1.cell? ⟨w.heap.size, 1, none⟩ = some y ∧ w1.cell? ⟨w.heap.size, 2, none⟩ = some z :=
  ⟨(h.cell (by simp)).trans (cell_new3 _ _ _ 0), (h.cell (by simp)).trans (cell_new3 _ _ _ 1), (h.cell (by simp)).trans (cell_new3 _ _ _ 2)⟩
/-! ### Term -/
set_option maxHeartbeats 400000 in
theorem term_any (k i : Int) (A : Option Addr) (n c : Nat) (w : World) :
    Calls Tryd.prog 26 #[.agg #[.int .i64 k, .int .i64 i, .slice A n c]] w fun e w' => e = .returned (.bool (termB k)) ∧ Below w.heap.size w w' := by
  have hb : Below w.heap.size w (w.alloc (.cells #[.int .i64 k, .int .i64 i, .slice A n c] 24)) := (Below.refl _ _).alloc (Nat.le_refl _) _
  by_cases h1 : k = 1
  · subst h1
    go_enter Tryd.func26, Tryd.ntmps26
    go_wp2
    go_ret
    exact ⟨rfl, hb⟩
  · have h1' : (k == 1) = false := by simpa using h1
    by_cases h2 : k = 2
    · subst h2
      go_enter Tryd.func26, Tryd.ntmps26
      go_wp2
      go_ret
      exact ⟨rfl, hb⟩
    · have h2' : (k == 2) = false := by simpa using h2
      have T := Lib.hid (show termB k = false by simp [termB, h1, h2])
      go_enter Tryd.func26, Tryd.ntmps26
      go_wp2
      go_ret
      exact ⟨by rw [T.out]; rfl, hb⟩
/-! ### sizeUpTo -/
theorem min_step (a s m : Nat) (h : a < m) : min a m + min s (m - min a m) = min (a + s) m := by omega
set_option maxHeartbeats 1000000 in
theorem sizeUpTo_any : ∀ (N : Nat) (t : Tr) (A : Option Addr) (c most : Nat) (w : World), t.sz ≤ N → IsT w w.heap.size t A c → 1 ≤ most → most ≤ 1001 →
    Calls Tryd.prog 51 #[.agg #[.int .i64 t.k, .int .i64 t.i, .slice A t.ks.length c], .int .i64 most] w fun e w' => e = .returned (.int .i64 (min t.sz most : Nat)) ∧ Below w.heap.size w w' := by
  intro N
  induction N with
  | zero => intro t A c most w h; have := sz_pos t; omega
  | succ N ih =>
    intro t A c most w hN ht h1 hm
    have IH := Lib.hid ih
    have HT := Lib.hid ht
    have E := Lib.hid (sz_eq t)
    have hl := ht.len
    have hb0 : Below w.heap.size w (w.alloc (.cells #[.int .i64 t.k, .int .i64 t.i, .slice A t.ks.length c] 24)) := (Below.refl _ _).alloc (Nat.le_refl _) _
    clear ih ht
    go_enter Tryd.func51, Tryd.ntmps51
    go_wp2_with fail
    go_loopw [5, 11] (fun s i wr => ∃ m : Nat, m ≤ t.ks.length ∧ i = .int .i64 m ∧ s = .int .i64 (min (1 + szL (t.ks.take m)) most : Nat) ∧ Below w.heap.size w wr) (fun _ i _ => t.ks.length - (intOf i).toNat)
    case atStart => exact ⟨0, Nat.zero_le _, rfl, by simp [szL]; omega, hb0⟩
    case round =>
      obtain ⟨m, hm', rfl, rfl, hbr⟩ := hrel
      by_cases hlt : m < t.ks.length
      · obtain ⟨b, o, A', c', rfl, hlt', c0, c1, c2, hk⟩ := HT.out.kid m hlt
        have S := Lib.hid (szL_take t.ks m hlt)
        have kz := kid_sz t m hlt
        obtain ⟨q, hq⟩ : ∃ q, q = t.ks[m] := ⟨_, rfl⟩
        rw [← hq] at c0 c1 c2 hk kz S
        clear hq
        have d0 := (hbr.cell hlt').trans c0
        have d1 := (hbr.cell hlt').trans c1
        have d2 := (hbr.cell hlt').trans c2
        have HK := Lib.hid (hk.keep (hbr.mono (Nat.le_refl _)) hbr.size)
        clear c0 c1 c2 hk
        obtain ⟨s, hs⟩ : ∃ s, s = min (1 + szL (t.ks.take m)) most := ⟨_, rfl⟩
        have hs1 : s ≤ most := by omega
        rw [← hs]
        have HS := Lib.hid hs
        clear hs
        by_cases hsm : most ≤ s
        · have F := Lib.hid (show min t.sz most = most by
            have := S.out; have := szL_take_le t.ks m; have := E.out; have := HS.out; omega)
          go_wp2_with fail
          go_ret
          exact ⟨ret_int (by rw [F.out]), hbr.trans (((Below.refl _ _).alloc (Nat.le_refl _) _).mono hbr.size)⟩
        · have X := Lib.hid (min_step (1 + szL (t.ks.take m)) q.sz most (by have := HS.out; omega))
          have ha : Below wr.heap.size wr (wr.alloc (.cells #[.int .i64 q.k, .int .i64 q.i, .slice A' q.ks.length c'] 24)) := (Below.refl _ _).alloc (Nat.le_refl _) _
          have HK' := Lib.hid (HK.out.keep ha ha.size)
          have e1 : (most : Int) - (s : Int) = ((most - s : Nat) : Int) := by omega
          go_wp2_with fail
          refine (IH.out q A' c' (most - s) _ (by omega) (by exact HK'.out) (by omega) (by omega)).mono ?_
          rintro e w' ⟨rfl, hb2⟩
          have hb3 : Below w.heap.size w w' := hbr.trans ((ha.trans (hb2.mono ha.size)).mono hbr.size)
          clear hb2
          go_wp2_with fail
          go_roundw
          case rel =>
            refine ⟨m + 1, by omega, by go_num, ?_, hb3⟩
            have : (s : Int) + ((min q.sz (most - s) : Nat) : Int) = ((min (1 + szL (t.ks.take (m + 1))) most : Nat) : Int) := by
              have := S.out; have := X.out; have := HS.out; omega
            rw [this]
          case measure => simp [intOf]; omega
      · obtain rfl : m = t.ks.length := by omega
        have F := Lib.hid (show min (1 + szL (t.ks.take t.ks.length)) most = min t.sz most by rw [E.out, List.take_length])
        obtain ⟨s, hs⟩ : ∃ s, s = min (1 + szL (t.ks.take t.ks.length)) most := ⟨_, rfl⟩
        have hs1 : s ≤ most := by omega
        rw [← hs] at F ⊢
        have HS := Lib.hid hs
        clear hs
        go_wp2_with fail
        go_ret
        exact ⟨ret_int (by rw [F.out]), hbr⟩
/-! ### depthUpTo -/
set_option maxHeartbeats 1000000 in
theorem depthUpTo_any : ∀ (N : Nat) (t : Tr) (A : Option Addr) (c most : Nat) (w : World), t.sz ≤ N → IsT w w.heap.size t A c → 1 ≤ most → most ≤ 101 →
    Calls Tryd.prog 52 #[.agg #[.int .i64 t.k, .int .i64 t.i, .slice A t.ks.length c], .int .i64 most] w fun e w' => e = .returned (.int .i64 (min t.dp most : Nat)) ∧ Below w.heap.size w w' := by
  intro N
  induction N with
  | zero => intro t A c most w h; have := sz_pos t; omega
  | succ N ih =>
    intro t A c most w hN ht h1 hm
    have IH := Lib.hid ih
    have HT := Lib.hid ht
    have E := Lib.hid (dp_eq t)
    have hl := ht.len
    have hb0 : Below w.heap.size w (w.alloc (.cells #[.int .i64 t.k, .int .i64 t.i, .slice A t.ks.length c] 24)) := (Below.refl _ _).alloc (Nat.le_refl _) _
    clear ih ht
    by_cases h2 : most ≤ 1
    · have F := Lib.hid (show min t.dp most = most by have := E.out; omega)
      go_enter Tryd.func52, Tryd.ntmps52
      go_wp2_with fail
      go_ret
      exact ⟨ret_int (by rw [F.out]), hb0⟩
    · go_enter Tryd.func52, Tryd.ntmps52
      go_wp2_with fail
      go_loopw [5, 15] (fun s i wr => ∃ m : Nat, m ≤ t.ks.length ∧ i = .int .i64 m ∧ (∃ d : Nat, d = dpL (t.ks.take m) ∧ d + 1 < most ∧ s = .int .i64 (d : Nat)) ∧ Below w.heap.size w wr) (fun _ i _ => t.ks.length - (intOf i).toNat)
      case atStart => exact ⟨0, Nat.zero_le _, rfl, ⟨0, by simp [dpL], by omega, rfl⟩, hb0⟩
      case round =>
        obtain ⟨m, hm', rfl, ⟨d, hd, hd1, rfl⟩, hbr⟩ := hrel
        have HD := Lib.hid hd
        clear hd
        by_cases hlt : m < t.ks.length
        · obtain ⟨b, o, A', c', rfl, hlt', c0, c1, c2, hk⟩ := HT.out.kid m hlt
          have S := Lib.hid (dpL_take t.ks m hlt)
          have kz := kid_sz t m hlt
          have kd := kid_dp t m hlt
          obtain ⟨q, hq⟩ : ∃ q, q = t.ks[m] := ⟨_, rfl⟩
          rw [← hq] at c0 c1 c2 hk kz S kd
          clear hq
          have d0 := (hbr.cell hlt').trans c0
          have d1 := (hbr.cell hlt').trans c1
          have d2 := (hbr.cell hlt').trans c2
          have HK := Lib.hid (hk.keep (hbr.mono (Nat.le_refl _)) hbr.size)
          clear c0 c1 c2 hk
          have ha : Below wr.heap.size wr (wr.alloc (.cells #[.int .i64 q.k, .int .i64 q.i, .slice A' q.ks.length c'] 24)) := (Below.refl _ _).alloc (Nat.le_refl _) _
          have HK' := Lib.hid (HK.out.keep ha ha.size)
          have e1 : (most : Int) - 1 = ((most - 1 : Nat) : Int) := by omega
          have KD := Lib.hid kd
          clear kd
          go_wp2_with fail
          refine (IH.out q A' c' (most - 1) _ (by omega) (by exact HK'.out) (by omega) (by omega)).mono ?_
          rintro e w' ⟨rfl, hb2⟩
          have hb3 : Below w.heap.size w w' := hbr.trans ((ha.trans (hb2.mono ha.size)).mono hbr.size)
          clear hb2
          obtain ⟨p, hp⟩ : ∃ p, p = min q.dp (most - 1) := ⟨_, rfl⟩
          have hp1 : p ≤ most - 1 := by omega
          rw [← hp]
          have HP := Lib.hid hp
          clear hp
          clear e1
          by_cases h3 : d < p
          · by_cases h4 : most ≤ p + 1
            · have F := Lib.hid (show min t.dp most = most by have := HP.out; have := KD.out; omega)
              go_wp2_with fail
              go_ret
              exact ⟨ret_int (by rw [F.out]), hb3⟩
            · go_wp2_with fail
              go_roundw
              case rel => exact ⟨m + 1, by omega, by go_num, ⟨p, by have := S.out; have := HD.out; have := HP.out; omega, by omega, rfl⟩, hb3⟩
              case measure => simp [intOf]; omega
          · go_wp2_with fail
            go_roundw
            case rel => exact ⟨m + 1, by omega, by go_num, ⟨d, by have := S.out; have := HD.out; have := HP.out; omega, by omega, rfl⟩, hb3⟩
            case measure => simp [intOf]; omega
        · obtain rfl : m = t.ks.length := by omega
          have F := Lib.hid (show min t.dp most = d + 1 by have := HD.out; rw [List.take_length] at this; have := E.out; omega)
          go_wp2_with fail
          go_ret
          exact ⟨ret_int (by rw [F.out]; go_num), hbr⟩
end Go.Proofs.YtgnfbhemkombaaaDoor
