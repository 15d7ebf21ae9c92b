/- E12, G2, FO, I2, T20, G1, one behind the other. -/
import Derived.Test.YtjdhmfpkhijkeaaGreatE11
import Derived.Test.YtjdhmfpkhijkeaaGreatLK
import Derived.Test.YtjdhmfpkhijkeaaGreatEV
import Derived.Deep.RegionHeld3
import Derived.Test.YtjdhmfpkhijkeaaGreatF2
import Derived.Test.YtjdhmfpkhijkeaaGreatE9
import Derived.Test.YtjdhmfpkhijkeaaGreatT3
import Derived.Test.YtjdhmfpkhijkeaaGreatT17
import Derived.Test.YtjdhmfpkhijkeaaGreatT18
import Derived.Test.YtjdhmfpkhijkeaaGreatF3
import Derived.Deep.DeepCutAuto
namespace Go.Proofs.YtjdhmfpkhijkeaaGreat
open Go.RowKit
theorem xorder_any (N : Nat) : OrderC N := by
  induction N with
  | zero => intro t _ _ _ _ _ w h; have := sz_pos t; omega
  | succ N ih => exact order_step N ih
def firstL : List Tr → Nat
  | [] => 0
  | t :: r => if rightN t ≠ 0 then rightN t else firstL r
theorem firstL_two (a b : Tr) : firstL [a, b] = firstN a b := by
  unfold firstN
  simp only [firstL]
  split
  · rfl
  · split
    · rfl
    · rename_i h; simp at h; omega
theorem firstL_skip (ks : List Tr) (m : Nat) (h : m < ks.length) (h0 : firstL ks = firstL (ks.drop m)) (hr : rightN ks[m] = 0) : firstL ks = firstL (ks.drop (m + 1)) := by
  rw [h0, List.drop_eq_getElem_cons h]; simp only [firstL]; rw [if_neg (by simp [hr])]
theorem firstL_hit (ks : List Tr) (m : Nat) (h : m < ks.length) (h0 : firstL ks = firstL (ks.drop m)) (hr : rightN ks[m] ≠ 0) : firstL ks = rightN ks[m] := by
  rw [h0, List.drop_eq_getElem_cons h]; simp only [firstL]; rw [if_pos hr]
set_option maxHeartbeats 1000000 in
theorem firstFault_any (t : Tr) (A : Option Addr) (c : Nat) (w : World) (ht : IsT w w.heap.size t A c) :
    Calls Tryz.prog 111 #[.slice A t.ks.length c] w fun e w' => e = .returned (.int .i64 (firstL t.ks : Nat)) ∧ Below w.heap.size w w' := by
  have HT := Lib.hid ht
  have hl := ht.len
  clear ht
  go_enter Tryz.func111, Tryz.ntmps111
  go_wp2_with fail
  go_loopw [8] (fun i wr => ∃ m : Nat, m ≤ t.ks.length ∧ i = .int .i64 m ∧ firstL t.ks = firstL (t.ks.drop m) ∧ Below w.heap.size w wr) (fun i _ => t.ks.length - (intOf i).toNat)
  case atStart => exact ⟨0, Nat.zero_le _, rfl, by simp, Below.refl _ _⟩
  case round =>
    obtain ⟨m, hm', rfl, hf, hbr⟩ := hrel
    have HF := Lib.hid hf
    clear hf
    by_cases hlt : m < t.ks.length
    · obtain ⟨b, o, A', c', rfl, hlt', p0, p1, p2, hk⟩ := HT.out.kid m hlt
      have S := Lib.hid (firstL_skip t.ks m hlt HF.out)
      have Z := Lib.hid (firstL_hit t.ks m hlt HF.out)
      obtain ⟨q, hq⟩ : ∃ q, q = t.ks[m] := ⟨_, rfl⟩
      rw [← hq] at p0 p1 p2 hk S Z
      clear hq
      have e0 := (hbr.cell hlt').trans p0
      have e1 := (hbr.cell hlt').trans p1
      have e2 := (hbr.cell hlt').trans p2
      have ha : Below wr.heap.size wr (wr.alloc (.cells #[.int .i64 q.k, .int .i64 q.i, .slice A' q.ks.length c'] 26)) := (Below.refl _ _).alloc (Nat.le_refl _) _
      have HK := Lib.hid ((hk.keep hbr hbr.size).keep ha ha.size)
      clear p0 p1 p2 hk
      go_wp2_with fail
      refine (right_any q A' c' _ (by exact HK.out)).mono ?_
      rintro e w1 ⟨rfl, hb1⟩
      have hb2 : Below w.heap.size w w1 := hbr.trans ((ha.trans (hb1.mono ha.size)).mono hbr.size)
      clear hb1
      by_cases hr : rightN q = 0
      · have h1 : ((rightN q : Int) != 0) = false := by simpa using hr
        have S2 := Lib.hid (S.out hr)
        clear hr
        go_wp2_with fail
        go_roundw
        case rel => exact ⟨m + 1, by omega, by go_num, S2.out, hb2⟩
        case measure => simp [intOf]; omega
      · have h1 : ((rightN q : Int) != 0) = true := by simpa using hr
        have S2 := Lib.hid (Z.out hr)
        clear hr
        go_wp2_with fail
        go_ret
        exact ⟨ret_int (by rw [S2.out]), hb2⟩
    · obtain rfl : m = t.ks.length := by omega
      have F := Lib.hid (show firstL t.ks = 0 by rw [HF.out, List.drop_length]; rfl)
      go_wp2_with fail
      go_ret
      exact ⟨ret_int (by rw [F.out]; rfl), hbr⟩
/-- a list of two, laid out for a variadic call -/
theorem isT_pair {w wr : World} {a b : Tr} {A A' : Option Addr} {c c' : Nat} (h : Two w wr a b A A' c c') :
    IsT (wr.alloc (.cells #[.int .i64 a.k, .int .i64 a.i, .slice A a.ks.length c, .int .i64 b.k, .int .i64 b.i, .slice A' b.ks.length c'] 26)) (wr.heap.size + 1) (.node 0 0 [a, b]) (some ⟨wr.heap.size, 0, none⟩) 2 := by
  have hb : Below wr.heap.size wr (wr.alloc (.cells #[.int .i64 a.k, .int .i64 a.i, .slice A a.ks.length c, .int .i64 b.k, .int .i64 b.i, .slice A' b.ks.length c'] 26)) := (Below.refl _ _).alloc (Nat.le_refl _) _
  have e := fun j => cell_new3 wr #[.int .i64 a.k, .int .i64 a.i, .slice A a.ks.length c, .int .i64 b.k, .int .i64 b.i, .slice A' b.ks.length c'] 26 j
  refine IsT.mk (t := .node 0 0 [a, b]) (by simp [Tr.ks]) (by simp [Tr.ks, Cap]) fun m hm => ?_
  have hm' : m = 0 ∨ m = 1 := by simp [Tr.ks] at hm; omega
  rcases hm' with rfl | rfl
  · exact ⟨wr.heap.size, 0, A, c, rfl, by omega, e 0, e 1, e 2, h.ta.keep hb (by omega)⟩
  · exact ⟨wr.heap.size, 0, A', c', rfl, by omega, e 3, e 4, e 5, h.tb.keep hb (by omega)⟩
/-- what Compare answers: a number, an error -/
def compV (a b : Tr) : Int := if firstN a b ≠ 0 then 0 else cmpT a b
theorem ret2_ints {k k' : IntKind} {a b c d : Int} (h : a = b) (h' : c = d) : Ending.returned (.tuple #[.int k a, .int k' c]) = .returned (.tuple #[.int k b, .int k' d]) := by rw [h, h']
set_option maxHeartbeats 1000000 in
theorem compare_any (a b : Tr) (A A' : Option Addr) (c c' : Nat) (w : World) (ha : IsT w w.heap.size a A c) (hb : IsT w w.heap.size b A' c') :
    Calls Tryz.prog 91 #[.agg #[.int .i64 a.k, .int .i64 a.i, .slice A a.ks.length c], .agg #[.int .i64 b.k, .int .i64 b.i, .slice A' b.ks.length c']] w fun e w' => e = .returned (.tuple #[.int .i64 (compV a b), .int .i64 (firstN a b : Nat)]) ∧ Below w.heap.size w w' := by
  have T0 := Lib.hid (two_start ha hb)
  have P0 := Lib.hid (isT_pair T0.out)
  have K0 := Lib.hid (T0.out.keep ((Below.refl _ _).alloc (Nat.le_refl _) (.cells #[.int .i64 a.k, .int .i64 a.i, .slice A a.ks.length c, .int .i64 b.k, .int .i64 b.i, .slice A' b.ks.length c'] 26)))
  clear ha hb
  go_enter Tryz.func91, Tryz.ntmps91
  go_wp2_with fail
  refine (firstFault_any (.node 0 0 [a, b]) _ 2 _ (by simpa using P0.out)).mono ?_
  rintro e w1 ⟨rfl, hb1⟩
  have T1 := K0.out.keep hb1
  have FE := Lib.hid (show firstL (Tr.node 0 0 [a, b]).ks = firstN a b from firstL_two a b)
  rw [FE.out]
  by_cases h : firstN a b = 0
  · have h1 : ((firstN a b : Int) != 0) = false := by simpa using h
    have F := Lib.hid (show compV a b = cmpT a b by unfold compV; rw [if_neg (by simp [h])])
    have H := Lib.hid h
    have c0 := T1.b0
    have c1 := T1.b1
    have c2 := T1.b2
    have c3 := T1.d0
    have c4 := T1.d1
    have c5 := T1.d2
    clear h hb1
    go_wp2_with fail
    refine (xorder_any a.sz a b A A' c c' _ (Nat.le_refl _) (by exact T1.ta) (by exact T1.tb)).mono ?_
    rintro e w2 ⟨rfl, hb2⟩
    go_wp2_with fail
    go_ret2
    exact ⟨ret2_ints (by rw [F.out]) (by rw [H.out]; rfl), (T1.keep hb2).below⟩
  · have h1 : ((firstN a b : Int) != 0) = true := by simpa using h
    have F := Lib.hid (show compV a b = 0 by unfold compV; rw [if_pos h])
    clear h hb1
    go_wp2_with fail
    go_ret2
    exact ⟨ret2_ints (by rw [F.out]) rfl, T1.below⟩
/-- both right, and the same -/
def sameB (a b : Tr) : Bool := decide (firstN a b = 0) && decide (cmpT a b = 0)
set_option maxHeartbeats 1000000 in
theorem same_any (a b : Tr) (A A' : Option Addr) (c c' : Nat) (w : World) (ha : IsT w w.heap.size a A c) (hb : IsT w w.heap.size b A' c') :
    Calls Tryz.prog 57 #[.agg #[.int .i64 a.k, .int .i64 a.i, .slice A a.ks.length c], .agg #[.int .i64 b.k, .int .i64 b.i, .slice A' b.ks.length c']] w fun e w' => e = .returned (.bool (sameB a b)) ∧ Below w.heap.size w w' := by
  have T0 := Lib.hid (two_start ha hb)
  clear ha hb
  go_enter Tryz.func57, Tryz.ntmps57
  go_wp2_with fail
  refine (compare_any a b A A' c c' _ (by exact T0.out.ta) (by exact T0.out.tb)).mono ?_
  rintro e w1 ⟨rfl, hb1⟩
  have R := Lib.hid (T0.out.keep hb1).below
  clear hb1
  by_cases h : firstN a b = 0
  · have h1 : ((firstN a b : Int) == 0) = true := by simpa using h
    have F := Lib.hid (show compV a b = cmpT a b by unfold compV; rw [if_neg (by simp [h])])
    rw [F.out]
    by_cases hc : cmpT a b = 0
    · have hc1 : (cmpT a b == 0) = true := by simpa using hc
      have G := Lib.hid (show sameB a b = true by unfold sameB; rw [decide_eq_true h, decide_eq_true hc]; rfl)
      clear h hc
      go_wp2_with fail
      go_ret
      exact ⟨by rw [G.out]; rfl, R.out⟩
    · have hc1 : (cmpT a b == 0) = false := by simpa using hc
      have G := Lib.hid (show sameB a b = false by unfold sameB; rw [decide_eq_true h, decide_eq_false hc]; rfl)
      clear h hc
      go_wp2_with fail
      go_ret
      exact ⟨by rw [G.out]; rfl, R.out⟩
  · have h1 : ((firstN a b : Int) == 0) = false := by simpa using h
    have G := Lib.hid (show sameB a b = false by unfold sameB; rw [decide_eq_false h]; rfl)
    clear h
    go_wp2_with fail
    go_ret
    exact ⟨by rw [G.out]; rfl, R.out⟩
/-! ### the document's -/
theorem sameB_eq (a b : Tr) : sameB a b = (decide (rightN a = 0) && decide (rightN b = 0) && likeB a b) := by
  unfold sameB firstN likeB
  by_cases h : rightN a = 0
  · rw [if_neg (by simp [h]), decide_eq_true h]; rfl
  · rw [if_pos h, decide_eq_false h]; rfl
end Go.Proofs.YtjdhmfpkhijkeaaGreat
namespace Go.Proofs.YtjdhmfpkhijkeaaGreat
open Go.RowKit
set_option linter.unusedVariables false
set_option linter.unusedSimpArgs false
/-- of each its sort -/
def sortsB (ks : List Tr) (cs : List Bool) : Bool := (List.range ks.length).all fun j => termB (ks.getD j default).k == cs.getD j false
def sortedN (ks : List Tr) (cs : List Bool) : Nat := if firstL ks ≠ 0 then firstL ks else if sortsB ks cs = true then 0 else 40
theorem sortsB_true {ks : List Tr} {cs : List Bool} (h : ∀ j, j < ks.length → termB (ks.getD j default).k = cs.getD j false) : sortsB ks cs = true := by
  unfold sortsB
  rw [List.all_eq_true]
  intro j hj
  rw [h j (List.mem_range.1 hj)]
  exact beq_self_eq_true _
theorem sortsB_false {ks : List Tr} {cs : List Bool} {m : Nat} (hm : m < ks.length) (h : termB (ks.getD m default).k ≠ cs.getD m false) : sortsB ks cs = false := by
  cases e : sortsB ks cs with
  | false => rfl
  | true =>
    unfold sortsB at e
    rw [List.all_eq_true] at e
    have := e m (List.mem_range.2 hm)
    simp at this
    exact absurd (by simpa using this) h
theorem firstL_done {ks : List Tr} (h : firstL ks = firstL (ks.drop ks.length)) : firstL ks = 0 := by rw [h]; simp [firstL]
theorem firstL_zero : ∀ {ks : List Tr}, firstL ks = 0 → ∀ q ∈ ks, rightN q = 0
  | [], _, q, hq => by simp at hq
  | t :: r, h, q, hq => by
    simp only [firstL] at h
    by_cases ht : rightN t = 0
    · rw [if_neg (by simp [ht])] at h
      rcases List.mem_cons.1 hq with rfl | hq
      · exact ht
      · exact firstL_zero h q hq
    · rw [if_pos ht] at h
      exact absurd h ht
theorem getD_at (ks : List Tr) (m : Nat) (h : m < ks.length) : ks.getD m default = ks[m] := by simp [List.getD_eq_getElem?_getD, h]
/-- a string that names sorts -/
def Names (s : ByteArray) (cs : List Bool) : Prop := ∀ m (h : m < s.size), ((s[m].toNat : Int) == 116) = cs.getD m false
set_option maxHeartbeats 2000000 in
set_option maxRecDepth 100000 in
theorem rsorted_any (l : Tr) (A : Option Addr) (c : Nat) (s : ByteArray) (cs : List Bool) (w : World) (hl : IsT w w.heap.size l A c) (hs : s.size = l.ks.length) (hn : Names s cs) :
    Calls Tryz.prog 24 #[.slice A l.ks.length c, .string s] w fun e w' => e = .returned (.int .i64 (sortedN l.ks cs : Nat)) ∧ Below w.heap.size w w' := by
  have HT := Lib.hid hl
  have hl1 := hl.len
  have HS := Lib.hid hs
  have HN := Lib.hid hn
  clear hl hs hn
  go_enter Tryz.func24, Tryz.ntmps24
  go_wp2_with fail
  go_loopw [11] (fun i wr => ∃ m : Nat, m ≤ l.ks.length ∧ i = .int .i64 m ∧ firstL l.ks = firstL (l.ks.drop m) ∧ Below w.heap.size w wr) (fun i _ => l.ks.length - (intOf i).toNat)
  case atStart => exact ⟨0, Nat.zero_le _, rfl, by simp, Below.refl _ _⟩
  case round =>
    obtain ⟨m, hm', rfl, hf, hbr⟩ := hrel
    have HF := Lib.hid hf
    clear hf
    by_cases hlt : m < l.ks.length
    · obtain ⟨b, o, A', c', rfl, hlt', p0, p1, p2, hk⟩ := HT.out.kid m hlt
      have S := Lib.hid (firstL_skip l.ks m hlt HF.out)
      have Z := Lib.hid (firstL_hit l.ks m hlt HF.out)
      obtain ⟨q, hq⟩ : ∃ q, q = l.ks[m] := ⟨_, rfl⟩
      rw [← hq] at p0 p1 p2 hk S Z
      clear hq
      have e0 := (hbr.cell hlt').trans p0
      have e1 := (hbr.cell hlt').trans p1
      have e2 := (hbr.cell hlt').trans p2
      have E1 := Lib.hid (env1 (hk.keep hbr hbr.size))
      clear p0 p1 p2 hk
      go_wp2_with fail
      refine (rright_any q A' c' _ (by exact E1.out.tree wr.heap.size q A' c' (by simp))).mono ?_
      rintro e w1 ⟨rfl, hb1⟩
      have E2 := Lib.hid (E1.out.keep hb1)
      clear hb1 e0 e1 e2 E1
      obtain ⟨z0, z1, z2⟩ := E2.out.cells wr.heap.size q A' c' (by simp)
      by_cases hr : rightN q = 0
      · have h1 : ((rightN q : Int) != 0) = false := by simpa using hr
        have S2 := Lib.hid (S.out hr)
        clear hr
        go_wp2_with fail
        go_roundw
        case rel => exact ⟨m + 1, by omega, by go_num, S2.out, hbr.trans (E2.out.below.mono hbr.size)⟩
        case measure => simp [intOf]; omega
      · have h1 : ((rightN q : Int) != 0) = true := by rw [bne_iff_ne]; omega
        have F := Lib.hid (show sortedN l.ks cs = rightN q by unfold sortedN; rw [Z.out hr, if_pos hr])
        clear hr
        go_wp2_with fail
        refine (rright_any q A' c' _ (by exact E2.out.tree wr.heap.size q A' c' (by simp))).mono ?_
        rintro e w2 ⟨rfl, hb2⟩
        have E3 := Lib.hid (E2.out.keep hb2)
        clear hb2
        go_wp2_with fail
        go_ret
        exact ⟨by rw [F.out]; rfl, hbr.trans (E3.out.below.mono hbr.size)⟩
    · obtain rfl : m = l.ks.length := by omega
      have F0 := Lib.hid (firstL_done HF.out)
      have HB := Lib.hid hbr
      go_wp2_with fail
      clear hbr
      go_loopw [23] (fun i wx => ∃ m : Nat, m ≤ l.ks.length ∧ i = .int .i64 m ∧ (∀ j, j < m → termB (l.ks.getD j default).k = cs.getD j false) ∧ Below w.heap.size w wx) (fun i _ => l.ks.length - (intOf i).toNat)
      case atStart => exact ⟨0, Nat.zero_le _, rfl, by intro j hj; omega, HB.out⟩
      case round =>
        obtain ⟨m, hm', rfl, hall, hbr⟩ := hrel
        have AL := Lib.hid hall
        clear hall
        by_cases hlt : m < l.ks.length
        · obtain ⟨b, o, A', c', rfl, hlt', p0, p1, p2, hk⟩ := HT.out.kid m hlt
          have GA := Lib.hid (getD_at l.ks m hlt)
          have SF := Lib.hid (fun h => sortsB_false (cs := cs) hlt h)
          have hsz : m < s.size := by rw [HS.out]; exact hlt
          have NM := Lib.hid (HN.out m hsz)
          obtain ⟨q, hq⟩ : ∃ q, q = l.ks[m] := ⟨_, rfl⟩
          rw [← hq] at p0 p1 p2 hk GA
          rw [GA.out] at SF
          clear hq
          have e0 := (hbr.cell hlt').trans p0
          have e1 := (hbr.cell hlt').trans p1
          have e2 := (hbr.cell hlt').trans p2
          have E1 := Lib.hid (env1 (hk.keep hbr hbr.size))
          clear p0 p1 p2 hk
          obtain ⟨x, hx⟩ : ∃ x, ((s[m].toNat : Int) == 116) = x := ⟨_, rfl⟩
          obtain ⟨y, hy0⟩ : ∃ y, termB q.k = y := ⟨_, rfl⟩
          rw [hx] at NM
          cases x <;> cases y
          · go_wp2_with fail
            clear e0 e1 e2
            have E2 := Lib.hid (E1.out.keep ((Below.refl _ _).drew))
            have BB : Below _ _ _ := Below.refl ((wr.alloc (.cells #[.int .i64 q.k, .int .i64 q.i, .slice A' q.ks.length c'] 26)).drew.heap.size) ((wr.alloc (.cells #[.int .i64 q.k, .int .i64 q.i, .slice A' q.ks.length c'] 26)).drew)
            have hm0 : (0 : Int) ≤ (m : Int) := by omega
            have hm1 : (m : Int) < (s.size : Int) := by omega
            go_region_held3 (fun w' => w'.cell? ⟨wr.heap.size, 0, none⟩ = some (.int .i64 q.k) ∧ w'.cell? ⟨wr.heap.size, 1, none⟩ = some (.int .i64 q.i) ∧ w'.cell? ⟨wr.heap.size, 2, none⟩ = some (.slice A' q.ks.length c'))
              (exact (E2.out.keep BB).cells wr.heap.size q A' c' (by simp))
              (first
                | (go_at_call 40; refine (term_any q.k q.i A' q.ks.length c' _).mono ?_; rintro e w6 ⟨rfl, hb6⟩; replace BB := BB.trans (hb6.mono BB.size); clear hb6))
            all_goals
              have E3 := Lib.hid (E2.out.keep BB)
              have AL2 := Lib.hid (show termB q.k = cs.getD m false → ∀ j, j < m + 1 → termB (l.ks.getD j default).k = cs.getD j false from fun ht j hj => by
                rcases Nat.lt_or_ge j m with h | h
                · exact AL.out j h
                · obtain rfl : j = m := by omega
                  rw [GA.out]; exact ht)
              have F := Lib.hid (show termB q.k ≠ cs.getD m false → sortedN l.ks cs = 40 from fun ht => by unfold sortedN; rw [if_neg (by rw [F0.out]; simp), SF.out ht]; simp)
              rw [hy0, ← NM.out] at F AL2
              go_wp2_with fail
              go_roundw
              case rel => exact ⟨m + 1, by omega, by go_num, AL2.out rfl, hbr.trans (E3.out.below.mono hbr.size)⟩
              case measure => simp [intOf]; omega
          · go_wp2_with fail
            clear e0 e1 e2
            have E2 := Lib.hid (E1.out.keep ((Below.refl _ _).drew))
            have BB : Below _ _ _ := Below.refl ((wr.alloc (.cells #[.int .i64 q.k, .int .i64 q.i, .slice A' q.ks.length c'] 26)).drew.heap.size) ((wr.alloc (.cells #[.int .i64 q.k, .int .i64 q.i, .slice A' q.ks.length c'] 26)).drew)
            have hm0 : (0 : Int) ≤ (m : Int) := by omega
            have hm1 : (m : Int) < (s.size : Int) := by omega
            go_region_held3 (fun w' => w'.cell? ⟨wr.heap.size, 0, none⟩ = some (.int .i64 q.k) ∧ w'.cell? ⟨wr.heap.size, 1, none⟩ = some (.int .i64 q.i) ∧ w'.cell? ⟨wr.heap.size, 2, none⟩ = some (.slice A' q.ks.length c'))
              (exact (E2.out.keep BB).cells wr.heap.size q A' c' (by simp))
              (first
                | (go_at_call 40; refine (term_any q.k q.i A' q.ks.length c' _).mono ?_; rintro e w6 ⟨rfl, hb6⟩; replace BB := BB.trans (hb6.mono BB.size); clear hb6))
            all_goals
              have E3 := Lib.hid (E2.out.keep BB)
              have AL2 := Lib.hid (show termB q.k = cs.getD m false → ∀ j, j < m + 1 → termB (l.ks.getD j default).k = cs.getD j false from fun ht j hj => by
                rcases Nat.lt_or_ge j m with h | h
                · exact AL.out j h
                · obtain rfl : j = m := by omega
                  rw [GA.out]; exact ht)
              have F := Lib.hid (show termB q.k ≠ cs.getD m false → sortedN l.ks cs = 40 from fun ht => by unfold sortedN; rw [if_neg (by rw [F0.out]; simp), SF.out ht]; simp)
              rw [hy0, ← NM.out] at F AL2
              go_wp2_with fail
              go_ret
              exact ⟨by rw [F.out (by simp)]; rfl, hbr.trans (E3.out.below.mono hbr.size)⟩
          · go_wp2_with fail
            clear e0 e1 e2
            have E2 := Lib.hid (E1.out.keep ((Below.refl _ _).drew))
            have BB : Below _ _ _ := Below.refl ((wr.alloc (.cells #[.int .i64 q.k, .int .i64 q.i, .slice A' q.ks.length c'] 26)).drew.heap.size) ((wr.alloc (.cells #[.int .i64 q.k, .int .i64 q.i, .slice A' q.ks.length c'] 26)).drew)
            have hm0 : (0 : Int) ≤ (m : Int) := by omega
            have hm1 : (m : Int) < (s.size : Int) := by omega
            go_region_held3 (fun w' => w'.cell? ⟨wr.heap.size, 0, none⟩ = some (.int .i64 q.k) ∧ w'.cell? ⟨wr.heap.size, 1, none⟩ = some (.int .i64 q.i) ∧ w'.cell? ⟨wr.heap.size, 2, none⟩ = some (.slice A' q.ks.length c'))
              (exact (E2.out.keep BB).cells wr.heap.size q A' c' (by simp))
              (first
                | (go_at_call 40; refine (term_any q.k q.i A' q.ks.length c' _).mono ?_; rintro e w6 ⟨rfl, hb6⟩; replace BB := BB.trans (hb6.mono BB.size); clear hb6))
            all_goals
              have E3 := Lib.hid (E2.out.keep BB)
              have AL2 := Lib.hid (show termB q.k = cs.getD m false → ∀ j, j < m + 1 → termB (l.ks.getD j default).k = cs.getD j false from fun ht j hj => by
                rcases Nat.lt_or_ge j m with h | h
                · exact AL.out j h
                · obtain rfl : j = m := by omega
                  rw [GA.out]; exact ht)
              have F := Lib.hid (show termB q.k ≠ cs.getD m false → sortedN l.ks cs = 40 from fun ht => by unfold sortedN; rw [if_neg (by rw [F0.out]; simp), SF.out ht]; simp)
              rw [hy0, ← NM.out] at F AL2
              go_wp2_with fail
              go_ret
              exact ⟨by rw [F.out (by simp)]; rfl, hbr.trans (E3.out.below.mono hbr.size)⟩
          · go_wp2_with fail
            clear e0 e1 e2
            have E2 := Lib.hid (E1.out.keep ((Below.refl _ _).drew))
            have BB : Below _ _ _ := Below.refl ((wr.alloc (.cells #[.int .i64 q.k, .int .i64 q.i, .slice A' q.ks.length c'] 26)).drew.heap.size) ((wr.alloc (.cells #[.int .i64 q.k, .int .i64 q.i, .slice A' q.ks.length c'] 26)).drew)
            have hm0 : (0 : Int) ≤ (m : Int) := by omega
            have hm1 : (m : Int) < (s.size : Int) := by omega
            go_region_held3 (fun w' => w'.cell? ⟨wr.heap.size, 0, none⟩ = some (.int .i64 q.k) ∧ w'.cell? ⟨wr.heap.size, 1, none⟩ = some (.int .i64 q.i) ∧ w'.cell? ⟨wr.heap.size, 2, none⟩ = some (.slice A' q.ks.length c'))
              (exact (E2.out.keep BB).cells wr.heap.size q A' c' (by simp))
              (first
                | (go_at_call 40; refine (term_any q.k q.i A' q.ks.length c' _).mono ?_; rintro e w6 ⟨rfl, hb6⟩; replace BB := BB.trans (hb6.mono BB.size); clear hb6))
            all_goals
              have E3 := Lib.hid (E2.out.keep BB)
              have AL2 := Lib.hid (show termB q.k = cs.getD m false → ∀ j, j < m + 1 → termB (l.ks.getD j default).k = cs.getD j false from fun ht j hj => by
                rcases Nat.lt_or_ge j m with h | h
                · exact AL.out j h
                · obtain rfl : j = m := by omega
                  rw [GA.out]; exact ht)
              have F := Lib.hid (show termB q.k ≠ cs.getD m false → sortedN l.ks cs = 40 from fun ht => by unfold sortedN; rw [if_neg (by rw [F0.out]; simp), SF.out ht]; simp)
              rw [hy0, ← NM.out] at F AL2
              go_wp2_with fail
              go_roundw
              case rel => exact ⟨m + 1, by omega, by go_num, AL2.out rfl, hbr.trans (E3.out.below.mono hbr.size)⟩
              case measure => simp [intOf]; omega
        · obtain rfl : m = l.ks.length := by omega
          have F := Lib.hid (show sortedN l.ks cs = 0 by unfold sortedN; rw [if_neg (by rw [F0.out]; simp), if_pos (sortsB_true AL.out)])
          go_wp2_with fail
          go_ret
          exact ⟨by rw [F.out]; rfl, hbr⟩
end Go.Proofs.YtjdhmfpkhijkeaaGreat
namespace Go.Proofs.YtjdhmfpkhijkeaaGreat
open Go.RowKit Go.Shelf
set_option linter.unusedVariables false
set_option linter.unusedSimpArgs false
/-- is it right, and a formula? as the code asks -/
def isFB (t : Tr) : Bool := decide (sortN t.k = 2) && decide (rightN t = 0)
set_option maxHeartbeats 1000000 in
theorem isForm_any (t : Tr) (A : Option Addr) (c : Nat) (w : World) (ht : IsT w w.heap.size t A c) :
    Calls Tryz.prog 56 #[.agg #[.int .i64 t.k, .int .i64 t.i, .slice A t.ks.length c]] w fun e w' => e = .returned (.bool (isFB t)) ∧ Below w.heap.size w w' := by
  have T0 := Lib.hid (One.new ht)
  obtain ⟨y0, y1, y2⟩ := And.intro T0.out.b0 (And.intro T0.out.b1 T0.out.b2)
  clear ht
  go_enter Tryz.func56, Tryz.ntmps56
  go_wp2_with fail
  refine (sortOf_any t.k t.i A t.ks.length c _).mono ?_
  rintro e w1 ⟨rfl, hb1⟩
  have T1 := Lib.hid (T0.out.keep hb1)
  obtain ⟨z0, z1, z2⟩ := And.intro T1.out.b0 (And.intro T1.out.b1 T1.out.b2)
  clear hb1 y0 y1 y2
  by_cases hs : sortN t.k = 2
  · have h1 : (sortN t.k == 2) = true := by simp [hs]
    have F := Lib.hid (show isFB t = decide (rightN t = 0) by unfold isFB; rw [decide_eq_true hs]; rfl)
    clear hs
    go_wp2_with fail
    refine (right_any t A c _ (by exact T1.out.tree)).mono ?_
    rintro e w2 ⟨rfl, hb2⟩
    have T2 := Lib.hid (T1.out.keep hb2)
    clear hb2
    by_cases hr : rightN t = 0
    · have h0 : ((rightN t : Int) == 0) = true := by simp [hr]
      have F2 := Lib.hid (show isFB t = true by rw [F.out, decide_eq_true hr])
      clear hr
      go_wp2_with fail
      go_ret
      exact ⟨by rw [F2.out]; rfl, T2.out.below⟩
    · have h0 : ((rightN t : Int) == 0) = false := by rw [beq_eq_false_iff_ne]; omega
      have F2 := Lib.hid (show isFB t = false by rw [F.out, decide_eq_false hr])
      clear hr
      go_wp2_with fail
      go_ret
      exact ⟨by rw [F2.out]; rfl, T2.out.below⟩
  · have h1 : (sortN t.k == 2) = false := by simpa using hs
    have F := Lib.hid (show isFB t = false by unfold isFB; rw [decide_eq_false hs]; rfl)
    clear hs
    go_wp2_with fail
    go_ret
    exact ⟨by rw [F.out]; rfl, T1.out.below⟩

theorem right_parts {t : Tr} (h : rightN t = 0) : t.sz ≤ 1000 ∧ t.dp ≤ 100 ∧ t.shp = true := by
  unfold rightN at h
  split at h
  · cases h
  · split at h
    · cases h
    · split at h
      · exact ⟨by omega, by omega, by assumption⟩
      · cases h
theorem right_sz {t : Tr} (h : rightN t = 0) : t.sz ≤ 1000 := (right_parts h).1
theorem right_dp {t : Tr} (h : rightN t = 0) : t.dp ≤ 100 := (right_parts h).2.1
theorem isFB_form {t : Tr} (hr : rightN t = 0) : isFB t = !termB t.k := by
  have hk := kind_of_shp t (right_parts hr).2.2
  unfold isFB
  rw [decide_eq_true hr, Bool.and_true]
  cases h : termB t.k with
  | true => exact decide_eq_false (fun e => by rw [((sort_formula t.k).1 e).1] at h; cases h)
  | false => exact decide_eq_true ((sort_formula t.k).2 ⟨h, hk.1, hk.2.1⟩)
end Go.Proofs.YtjdhmfpkhijkeaaGreat
namespace Go.Proofs.YtjdhmfpkhijkeaaGreat
set_option linter.unusedVariables false
set_option linter.unusedSimpArgs false
instance decTr : DecidableEq Tr := fun a b => decidable_of_iff (cmpT a b = 0) (cmpT_zero a b)
theorem right_kid {t q : Tr} (h : rightN t = 0) (hq : q ∈ t.ks) : rightN q = 0 := by
  obtain ⟨h1, h2, h3⟩ := right_shp' h
  have c := shp_kid h1 hq
  obtain ⟨m, hm, rfl⟩ := List.mem_iff_getElem.1 hq
  have a := kid_sz t m hm
  have b := kid_dp t m hm
  unfold rightN
  rw [if_neg (by omega), if_neg (by omega), if_pos c]
/-- the number of a tree in a list; 0: it is not in it -/
def num (L : List Tr) (t : Tr) : Nat := if t ∈ L then L.idxOf t + 1 else 0
theorem num_mem {L : List Tr} {t : Tr} : num L t ≠ 0 ↔ t ∈ L := by unfold num; split <;> simp_all
theorem num_zero {L : List Tr} {t : Tr} : num L t = 0 ↔ t ∉ L := by unfold num; split <;> simp_all
theorem num_le (L : List Tr) (t : Tr) : num L t ≤ L.length := by
  unfold num; split
  · rename_i h; exact List.idxOf_lt_length_of_mem h
  · omega
theorem num_at {L : List Tr} {t : Tr} (h : t ∈ L) : L[num L t - 1]? = some t := by
  unfold num
  rw [if_pos h]
  have := List.idxOf_lt_length_of_mem h
  simp [List.getElem?_eq_getElem this]
theorem num_inj {L : List Tr} {a b : Tr} (ha : a ∈ L) (h : num L a = num L b) : a = b := by
  have hb : b ∈ L := num_mem.1 (h ▸ num_mem.2 ha)
  have h1 := num_at ha
  have h2 := num_at hb
  rw [h, h2] at h1
  simpa using h1.symm
theorem num_append {L : List Tr} {t : Tr} (h : t ∈ L) (r : List Tr) : num (L ++ r) t = num L t := by
  unfold num
  rw [if_pos h, if_pos (List.mem_append_left r h), List.idxOf_append, if_pos h]
theorem num_new {L : List Tr} {t : Tr} (h : t ∉ L) : num (L ++ [t]) t = L.length + 1 := by
  unfold num
  rw [if_pos (by simp), List.idxOf_append, if_neg h]
  simp
theorem num_get {L : List Tr} (hn : L.Nodup) (i : Nat) (h : i < L.length) : num L L[i] = i + 1 := by
  unfold num
  rw [if_pos (List.getElem_mem h)]
  have h1 : L.idxOf L[i] < L.length := List.idxOf_lt_length_of_mem (List.getElem_mem h)
  have h2 : L[L.idxOf L[i]] = L[i] := by simp
  have h3 : L.idxOf L[i] = i := by
    rcases Nat.lt_trichotomy (L.idxOf L[i]) i with h4 | h4 | h4
    · exact absurd h2 ((List.pairwise_iff_getElem.1 hn) _ _ h1 h h4)
    · exact h4
    · exact absurd h2.symm ((List.pairwise_iff_getElem.1 hn) _ _ h h1 h4)
  omega
/-- numbers, and noughts behind -/
def pad4 (l : List Nat) : List Int := l.map (fun n : Nat => (n : Int)) ++ List.replicate (4 - l.length) 0
theorem pad4_len {l : List Nat} (h : l.length ≤ 4) : (pad4 l).length = 4 := by simp [pad4]; omega
theorem pad4_inj : ∀ {a b : List Nat}, a.length ≤ 4 → b.length ≤ 4 → (∀ x ∈ a, x ≠ 0) → (∀ x ∈ b, x ≠ 0) → pad4 a = pad4 b → a = b := by
  have key : ∀ (a b : List Nat) (n m : Nat), a.length + n = b.length + m → (∀ x ∈ a, x ≠ 0) → (∀ x ∈ b, x ≠ 0) → a.map (fun n : Nat => (n : Int)) ++ List.replicate n (0 : Int) = b.map (fun n : Nat => (n : Int)) ++ List.replicate m (0 : Int) → a = b := by
    intro a
    induction a with
    | nil =>
      intro b n m hl ha hb e
      cases b with
      | nil => rfl
      | cons y b =>
        exfalso
        cases n with
        | zero => first | (simp at hl; done) | (simp at hl; omega)
        | succ n =>
          simp [List.replicate_succ] at e
          exact hb y (by simp) (by omega)
    | cons x a ih =>
      intro b n m hl ha hb e
      cases b with
      | nil =>
        exfalso
        cases m with
        | zero => first | (simp at hl; done) | (simp at hl; omega)
        | succ m =>
          simp [List.replicate_succ] at e
          exact ha x (by simp) (by omega)
      | cons y b =>
        simp at e
        have := ih b n m (by simp at hl; omega) (fun z hz => ha z (by simp [hz])) (fun z hz => hb z (by simp [hz])) e.2
        rw [this]
        congr 1
        omega
  intro a b h1 h2 ha hb e
  exact key a b _ _ (by omega) ha hb e
/-- a tree's node, its parts by their numbers -/
def nodeT (L : List Tr) (t : Tr) : List Int := t.k :: t.i :: pad4 (t.ks.map (num L))
theorem nodeT_inj {L : List Tr} {a b : Tr} (ha : ∀ q ∈ a.ks, q ∈ L) (hb : ∀ q ∈ b.ks, q ∈ L) (h4 : a.ks.length ≤ 4) (h5 : b.ks.length ≤ 4) (h : nodeT L a = nodeT L b) : a = b := by
  unfold nodeT at h
  simp only [List.cons.injEq] at h
  obtain ⟨h1, h2, h3⟩ := h
  have e := pad4_inj (by simpa using h4) (by simpa using h5) (by simp only [List.mem_map]; rintro x ⟨q, hq, rfl⟩; exact num_mem.2 (ha q hq)) (by simp only [List.mem_map]; rintro x ⟨q, hq, rfl⟩; exact num_mem.2 (hb q hq)) h3
  have hk : ∀ (l r : List Tr), (∀ q ∈ l, q ∈ L) → l.map (num L) = r.map (num L) → l = r := by
    intro l
    induction l with
    | nil => intro r _ e; cases r with
      | nil => rfl
      | cons _ _ => simp at e
    | cons x l ih =>
      intro r hl e
      cases r with
      | nil => simp at e
      | cons y r =>
        simp at e
        rw [num_inj (hl x (by simp)) e.1, ih r (fun q hq => hl q (by simp [hq])) e.2]
  have h6 := hk a.ks b.ks ha e
  rw [Tr.eta a, Tr.eta b, h1, h2, h6]
theorem nodeT_append {L : List Tr} {t : Tr} (h : ∀ q ∈ t.ks, q ∈ L) (r : List Tr) : nodeT (L ++ r) t = nodeT L t := by
  unfold nodeT
  congr 3
  exact List.map_congr_left fun q hq => num_append (h q hq) r
/-- what holds of every table: each once, its parts ahead, all valid -/
structure Ok (L : List Tr) : Prop where
  nodup : L.Nodup
  kids : ∀ i (h : i < L.length), ∀ q ∈ L[i].ks, q ∈ L.take i
  right : ∀ t ∈ L, rightN t = 0
theorem Ok.nil : Ok [] := ⟨List.nodup_nil, fun i h => by simp at h, fun t h => by simp at h⟩
theorem Ok.kid {L : List Tr} (h : Ok L) {t q : Tr} (ht : t ∈ L) (hq : q ∈ t.ks) : q ∈ L := by
  obtain ⟨i, hi, rfl⟩ := List.mem_iff_getElem.1 ht
  exact List.mem_of_mem_take (h.kids i hi q hq)
theorem Ok.four {L : List Tr} (h : Ok L) {t : Tr} (ht : t ∈ L) : t.ks.length ≤ 4 := (kind_of_shp t (right_shp' (h.right t ht)).1).2.2.2.2
theorem Ok.add {L : List Tr} (h : Ok L) {t : Tr} (hn : t ∉ L) (hr : rightN t = 0) (hk : ∀ q ∈ t.ks, q ∈ L) : Ok (L ++ [t]) := by
  refine ⟨?_, fun i hi q hq => ?_, fun u hu => ?_⟩
  · rw [List.nodup_append]
    exact ⟨h.nodup, by simp, fun a ha b hb e => by simp at hb; subst hb; subst e; exact hn ha⟩
  · rcases Nat.lt_or_ge i L.length with h1 | h1
    · rw [List.getElem_append_left h1] at hq
      have := h.kids i h1 q hq
      rw [List.take_append_of_le_length (by omega)]
      exact this
    · obtain rfl : i = L.length := by simp at hi; omega
      simp at hq
      simp
      exact hk q hq
  · rcases List.mem_append.1 hu with h1 | h1
    · exact h.right u h1
    · simp at h1; rw [h1]; exact hr
theorem Ok.take {L : List Tr} (h : Ok L) (n : Nat) : Ok (L.take n) := by
  refine ⟨(List.take_sublist n L).nodup h.nodup, fun i hi q hq => ?_, fun t ht => h.right t (List.mem_of_mem_take ht)⟩
  simp at hi
  rw [List.getElem_take] at hq
  have := h.kids i (by omega) q hq
  rw [List.take_take, show min i n = i by omega]
  exact this
mutual
/-- what Put makes of a list, and the number (0: there is no room) -/
def addT (room : Nat) : Tr → List Tr → List Tr × Nat
  | .node k i ks, L =>
    if (addK room ks L).2 = false then ((addK room ks L).1, 0)
    else if num (addK room ks L).1 (.node k i ks) ≠ 0 then ((addK room ks L).1, num (addK room ks L).1 (.node k i ks))
    else if (addK room ks L).1.length = room then ((addK room ks L).1, 0)
    else ((addK room ks L).1 ++ [.node k i ks], (addK room ks L).1.length + 1)
def addK (room : Nat) : List Tr → List Tr → List Tr × Bool
  | [], L => (L, true)
  | q :: r, L => if (addT room q L).2 = 0 then ((addT room q L).1, false) else addK room r (addT room q L).1
end
theorem addT_eq (room : Nat) (t : Tr) (L : List Tr) : addT room t L = if (addK room t.ks L).2 = false then ((addK room t.ks L).1, 0)
    else if num (addK room t.ks L).1 t ≠ 0 then ((addK room t.ks L).1, num (addK room t.ks L).1 t)
    else if (addK room t.ks L).1.length = room then ((addK room t.ks L).1, 0)
    else ((addK room t.ks L).1 ++ [t], (addK room t.ks L).1.length + 1) := by
  obtain ⟨k, i, ks⟩ := t
  rw [addT]
  rfl
/-- what is so of a list behind a Put -/
structure Added (room : Nat) (L L' : List Tr) (n z : Nat) : Prop where
  ok : Ok L'
  pre : L <+: L'
  le : L'.length ≤ room
  more : L'.length + (if n = 0 then 1 else 0) ≤ L.length + z
  full : n = 0 → L'.length = room
theorem added : ∀ (t : Tr) (room : Nat) (L : List Tr), Ok L → L.length ≤ room → rightN t = 0 → Added room L (addT room t L).1 (addT room t L).2 t.sz ∧ ((addT room t L).2 ≠ 0 → t ∈ (addT room t L).1 ∧ (addT room t L).2 = num (addT room t L).1 t) := by
  intro t
  induction t using Tr.ind with
  | h t ih =>
    intro room L hL hle hr
    have hkids : ∀ (ks : List Tr) (L : List Tr), (∀ q ∈ ks, q ∈ t.ks) → Ok L → L.length ≤ room → Added room L (addK room ks L).1 (if (addK room ks L).2 = true then 1 else 0) (szL ks) ∧ ((addK room ks L).2 = true → ∀ q ∈ ks, q ∈ (addK room ks L).1) := by
      intro ks
      induction ks with
      | nil => intro L _ h1 h2; simp only [addK]; exact ⟨⟨h1, List.prefix_refl _, h2, by simp [szL], by simp⟩, by simp⟩
      | cons q r ihr =>
        intro L hs h1 h2
        obtain ⟨hq, hq2⟩ := ih q (hs q (by simp)) room L h1 h2 (right_kid hr (hs q (by simp)))
        rw [addK]
        by_cases h0 : (addT room q L).2 = 0
        · rw [if_pos h0]
          refine ⟨⟨hq.ok, hq.pre, hq.le, ?_, fun _ => hq.full h0⟩, by simp⟩
          have := hq.more
          rw [if_pos h0] at this
          simp [szL]
          omega
        · rw [if_neg h0]
          obtain ⟨hr1, hr2⟩ := ihr (addT room q L).1 (fun x hx => hs x (by simp [hx])) hq.ok hq.le
          refine ⟨⟨hr1.ok, hq.pre.trans hr1.pre, hr1.le, ?_, hr1.full⟩, fun ht x hx => ?_⟩
          · have a1 := hq.more
            have a2 := hr1.more
            rw [if_neg h0] at a1
            simp only [szL]
            omega
          · rcases List.mem_cons.1 hx with rfl | hx
            · exact hr1.pre.subset (hq2 h0).1
            · exact hr2 ht x hx
    obtain ⟨hk, hk2⟩ := hkids t.ks L (fun _ h => h) hL hle
    rw [addT_eq]
    have hsz := sz_eq t
    by_cases h0 : (addK room t.ks L).2 = false
    · rw [if_pos h0]
      have a1 := hk.more
      have a2 := hk.full
      simp [h0] at a1 a2
      exact ⟨⟨hk.ok, hk.pre, hk.le, by simp; omega, fun _ => a2⟩, by simp⟩
    · rw [if_neg h0]
      have h0' : (addK room t.ks L).2 = true := by simpa using h0
      have a1 := hk.more
      rw [if_pos h0'] at a1
      simp at a1
      by_cases h1 : num (addK room t.ks L).1 t ≠ 0
      · rw [if_pos h1]
        exact ⟨⟨hk.ok, hk.pre, hk.le, by simp [h1]; omega, fun e => absurd e h1⟩, fun _ => ⟨num_mem.1 h1, rfl⟩⟩
      · rw [if_neg h1]
        have hnot := num_zero.1 (by simpa using h1)
        by_cases h2 : (addK room t.ks L).1.length = room
        · rw [if_pos h2]
          exact ⟨⟨hk.ok, hk.pre, hk.le, by simp; omega, fun _ => h2⟩, by simp⟩
        · rw [if_neg h2]
          have hl := hk.le
          exact ⟨⟨hk.ok.add hnot hr (hk2 h0'), hk.pre.trans (List.prefix_append _ _), by simp; omega, by simp; omega, by simp⟩, fun _ => ⟨by simp, (num_new hnot).symm⟩⟩
theorem addK_mem (room : Nat) : ∀ (ks : List Tr) (L : List Tr), Ok L → L.length ≤ room → (∀ q ∈ ks, rightN q = 0) → (addK room ks L).2 = true → ∀ q ∈ ks, q ∈ (addK room ks L).1 := by
  have pre : ∀ (ks : List Tr) (L : List Tr), Ok L → L.length ≤ room → (∀ q ∈ ks, rightN q = 0) → L <+: (addK room ks L).1 := by
    intro ks
    induction ks with
    | nil => intro L _ _ _; rw [addK]; exact List.prefix_refl _
    | cons q r ih =>
      intro L h1 h2 h3
      obtain ⟨hq, _⟩ := added q room L h1 h2 (h3 q (by simp))
      rw [addK]
      split
      · exact hq.pre
      · exact hq.pre.trans (ih _ hq.ok hq.le (fun x hx => h3 x (by simp [hx])))
  intro ks
  induction ks with
  | nil => intro L _ _ _ _ q hq; simp at hq
  | cons q r ih =>
    intro L h1 h2 h3 ht x hx
    obtain ⟨hq, hq2⟩ := added q room L h1 h2 (h3 q (by simp))
    rw [addK] at ht ⊢
    by_cases h0 : (addT room q L).2 = 0
    · rw [if_pos h0] at ht; cases ht
    · rw [if_neg h0] at ht ⊢
      rcases List.mem_cons.1 hx with rfl | hx
      · exact (pre r _ hq.ok hq.le (fun x hx => h3 x (by simp [hx]))).subset (hq2 h0).1
      · exact ih _ hq.ok hq.le (fun x hx => h3 x (by simp [hx])) ht x hx
/-- f says which number each node has -/
structure MapOf (L : List Tr) (f : List Int → Nat) : Prop where
  at_ : ∀ i (h : i < L.length), f (nodeT L L[i]) = i + 1
  only : ∀ cs, f cs ≠ 0 → ∃ i, ∃ h : i < L.length, cs = nodeT L L[i]
theorem MapOf.nil : MapOf [] (fun _ => 0) := ⟨fun i h => by simp at h, fun cs h => absurd rfl h⟩
theorem MapOf.num {L : List Tr} {f : List Int → Nat} (h : MapOf L f) (ho : Ok L) {t : Tr} (hk : ∀ q ∈ t.ks, q ∈ L) (h4 : t.ks.length ≤ 4) : f (nodeT L t) = num L t := by
  by_cases hm : t ∈ L
  · obtain ⟨i, hi, rfl⟩ := List.mem_iff_getElem.1 hm
    rw [h.at_ i hi, num_get ho.nodup]
  · rw [num_zero.2 hm]
    rcases Nat.eq_zero_or_pos (f (nodeT L t)) with h0 | h0
    · exact h0
    · obtain ⟨i, hi, e⟩ := h.only _ (Nat.ne_of_gt h0)
      have := nodeT_inj hk (fun q hq => ho.kid (List.getElem_mem hi) hq) h4 (ho.four (List.getElem_mem hi)) e
      exact absurd (this ▸ List.getElem_mem hi) hm
theorem MapOf.add {L : List Tr} {f : List Int → Nat} (h : MapOf L f) (ho : Ok L) {t : Tr} (hn : t ∉ L) (hk : ∀ q ∈ t.ks, q ∈ L) (h4 : t.ks.length ≤ 4) : MapOf (L ++ [t]) (fun c => if c = nodeT L t then L.length + 1 else f c) := by
  refine ⟨fun i hi => ?_, fun cs hc => ?_⟩
  · rcases Nat.lt_or_ge i L.length with h1 | h1
    · rw [List.getElem_append_left h1, nodeT_append (fun q hq => ho.kid (List.getElem_mem h1) hq)]
      have hne : nodeT L L[i] ≠ nodeT L t := fun e => hn (nodeT_inj (fun q hq => ho.kid (List.getElem_mem h1) hq) hk (ho.four (List.getElem_mem h1)) h4 e ▸ List.getElem_mem h1)
      simp only [if_neg hne]
      exact h.at_ i h1
    · obtain rfl : i = L.length := by simp at hi; omega
      simp only [List.getElem_concat_length]
      rw [nodeT_append hk, if_pos rfl]
  · by_cases e : cs = nodeT L t
    · refine ⟨L.length, by simp, ?_⟩
      simp only [List.getElem_concat_length]
      rw [nodeT_append hk, e]
    · simp only [if_neg e] at hc
      obtain ⟨i, hi, e2⟩ := h.only cs hc
      refine ⟨i, by simp; omega, ?_⟩
      rw [List.getElem_append_left hi, nodeT_append (fun q hq => ho.kid (List.getElem_mem hi) hq), e2]
/-- the walk over the parts: what the list is behind, their numbers, whether all have one -/
def nodK (nf : Tr → List Tr → Nat) (nx : Tr → List Tr → List Tr) : List Tr → List Tr → List Tr × List Nat × Bool
  | [], L => (L, [], true)
  | q :: r, L => if nf q L = 0 then (nx q L, [], false) else ((nodK nf nx r (nx q L)).1, nf q L :: (nodK nf nx r (nx q L)).2.1, (nodK nf nx r (nx q L)).2.2)
def addN (room : Nat) (t : Tr) (L : List Tr) : Nat := (addT room t L).2
def addX (room : Nat) (t : Tr) (L : List Tr) : List Tr := (addT room t L).1
theorem nodK_add (room : Nat) : ∀ (ks : List Tr) (L : List Tr), Ok L → L.length ≤ room → (∀ q ∈ ks, rightN q = 0) →
    (nodK (addN room) (addX room) ks L).1 = (addK room ks L).1 ∧ (nodK (addN room) (addX room) ks L).2.2 = (addK room ks L).2 ∧ ((addK room ks L).2 = true → (nodK (addN room) (addX room) ks L).2.1 = ks.map (num (addK room ks L).1)) ∧ Ok (addK room ks L).1 ∧ (addK room ks L).1.length ≤ room ∧ L <+: (addK room ks L).1 := by
  intro ks
  induction ks with
  | nil => intro L h1 h2 _; simp only [nodK, addK]; exact ⟨trivial, trivial, fun _ => rfl, h1, h2, List.prefix_refl _⟩
  | cons q r ih =>
    intro L h1 h2 h3
    obtain ⟨hq, hq2⟩ := added q room L h1 h2 (h3 q (by simp))
    obtain ⟨i1, i2, i3, i4, i5, i6⟩ := ih (addT room q L).1 hq.ok hq.le (fun x hx => h3 x (by simp [hx]))
    rw [nodK, addK]
    by_cases h0 : (addT room q L).2 = 0
    · have h0' : addN room q L = 0 := h0
      rw [if_pos h0', if_pos h0]
      exact ⟨rfl, rfl, by simp, hq.ok, hq.le, hq.pre⟩
    · have h0' : ¬ addN room q L = 0 := h0
      rw [if_neg h0', if_neg h0]
      refine ⟨i1, i2, fun ht => ?_, i4, i5, hq.pre.trans i6⟩
      obtain ⟨r', hr'⟩ := i6
      have e := i3 ht
      simp only [List.map_cons]
      show (addT room q L).2 :: (nodK (addN room) (addX room) r (addT room q L).1).2.1 = _
      rw [e, (hq2 h0).2]
      congr 1
      rw [← hr', num_append (hq2 h0).1]
theorem nodK_find : ∀ (ks : List Tr) (L : List Tr), (nodK (fun q L => num L q) (fun _ L => L) ks L).1 = L ∧ ((nodK (fun q L => num L q) (fun _ L => L) ks L).2.2 = true ↔ ∀ q ∈ ks, q ∈ L) ∧ ((nodK (fun q L => num L q) (fun _ L => L) ks L).2.2 = true → (nodK (fun q L => num L q) (fun _ L => L) ks L).2.1 = ks.map (num L)) := by
  intro ks
  induction ks with
  | nil => intro L; simp [nodK]
  | cons q r ih =>
    intro L
    obtain ⟨i1, i2, i3⟩ := ih L
    rw [nodK]
    by_cases h0 : num L q = 0
    · simp only [h0, if_true]
      refine ⟨trivial, ?_, by simp⟩
      have := num_zero.1 h0
      simp [this]
    · simp only [if_neg h0]
      refine ⟨i1, ?_, fun ht => by rw [i3 ht]; rfl⟩
      rw [i2]
      have := num_mem.1 h0
      simp [this]
/-- the numbers found so far, and those of the rest -/
def preK (ns : List Nat) (x : List Tr × List Nat × Bool) : List Tr × List Nat × Bool := (x.1, if x.2.2 = true then ns ++ x.2.1 else [], x.2.2)
end Go.Proofs.YtjdhmfpkhijkeaaGreat
namespace Go.Proofs.YtjdhmfpkhijkeaaGreat
set_option linter.unusedVariables false
set_option linter.unusedSimpArgs false
/-- the same but for what lies below -/
def headB (a b : Tr) : Bool := decide (a.k = b.k ∧ a.i = b.i ∧ a.ks.length = b.ks.length)
/-- a is t, and b is u -/
def turnB (a b t u : Tr) : Bool := decide (cmpT a t = 0) && decide (cmpT b u = 0)
/-- a quantifier that names one of the variables -/
def namesB (own : Nat) (a : Tr) : Bool := decide (a.k = 7 ∨ a.k = 10) && hasN own a.i
mutual
def swpT (t u : Tr) (own : Nat) : Tr → Tr → Bool → Bool
  | .node k i ks, b, may => (may && turnB (.node k i ks) b t u) || (headB (.node k i ks) b && swpL t u own ks b.ks (may && !namesB own (.node k i ks)))
def swpL (t u : Tr) (own : Nat) : List Tr → List Tr → Bool → Bool
  | [], _, _ => true
  | _ :: _, [], _ => true
  | a :: r, b :: s, m => swpT t u own a b m && swpL t u own r s m
end
theorem swpT_eq (t u : Tr) (own : Nat) (a b : Tr) (may : Bool) : swpT t u own a b may = ((may && turnB a b t u) || (headB a b && swpL t u own a.ks b.ks (may && !namesB own a))) := by
  cases a; rw [swpT]; rfl
theorem swpL_cons (t u : Tr) (own : Nat) (a b : Tr) (r s : List Tr) (m : Bool) : swpL t u own (a :: r) (b :: s) m = (swpT t u own a b m && swpL t u own r s m) := by rw [swpL]
theorem swpL_nil (t u : Tr) (own : Nat) (s : List Tr) (m : Bool) : swpL t u own [] s m = true := by cases s <;> rw [swpL]
theorem swpL_take (t u : Tr) (own : Nat) (may : Bool) : ∀ (ks ls : List Tr) (m : Nat) (h : m < ks.length) (h' : m < ls.length), swpL t u own (ks.take (m + 1)) (ls.take (m + 1)) may = (swpL t u own (ks.take m) (ls.take m) may && swpT t u own ks[m] ls[m] may)
  | [], _, _, h, _ => by simp at h
  | _ :: _, [], _, _, h => by simp at h
  | a :: r, b :: s, 0, _, _ => by simp [swpL_cons, swpL_nil]
  | a :: r, b :: s, m + 1, h, h' => by
    simp only [List.take_succ_cons, swpL_cons, List.getElem_cons_succ]
    rw [swpL_take t u own may r s m (by simpa using h) (by simpa using h'), Bool.and_assoc]
theorem swpL_false (t u : Tr) (own : Nat) (may : Bool) : ∀ (ks ls : List Tr) (m : Nat) (h : m < ks.length) (h' : m < ls.length), swpT t u own ks[m] ls[m] may = false → swpL t u own ks ls may = false
  | [], _, _, h, _, _ => by simp at h
  | _ :: _, [], _, _, h, _ => by simp at h
  | a :: r, b :: s, 0, _, _, e => by simp only [List.getElem_cons_zero] at e; simp [swpL_cons, e]
  | a :: r, b :: s, m + 1, h, h', e => by
    rw [swpL_cons, swpL_false t u own may r s m (by simpa using h) (by simpa using h') (by simpa using e)]; simp
theorem headB_iff {a b : Tr} : headB a b = true ↔ a.k = b.k ∧ a.i = b.i ∧ a.ks.length = b.ks.length := by unfold headB; exact decide_eq_true_iff
theorem headB_comm (a b : Tr) : headB a b = headB b a := by
  rw [Bool.eq_iff_iff, headB_iff, headB_iff]
  exact ⟨fun ⟨h1, h2, h3⟩ => ⟨h1.symm, h2.symm, h3.symm⟩, fun ⟨h1, h2, h3⟩ => ⟨h1.symm, h2.symm, h3.symm⟩⟩
theorem turnB_comm (a b t u : Tr) : turnB a b t u = turnB b a u t := by unfold turnB; rw [Bool.and_comm]
theorem turnB_iff {a b t u : Tr} : turnB a b t u = true ↔ a = t ∧ b = u := by
  unfold turnB
  rw [Bool.and_eq_true, decide_eq_true_iff, decide_eq_true_iff, cmpT_zero, cmpT_zero]
theorem namesB_head {own : Nat} {a b : Tr} (h : headB a b = true) : namesB own a = namesB own b := by
  obtain ⟨h1, h2, _⟩ := headB_iff.1 h
  unfold namesB; rw [h1, h2]
/-- what is itself is itself, swapped -/
theorem swp_refl (t u : Tr) (own : Nat) (a : Tr) : ∀ may, swpT t u own a a may = true := by
  induction a using Tr.ind with
  | h a ih =>
    intro may
    rw [swpT_eq]
    have hh : headB a a = true := headB_iff.2 ⟨rfl, rfl, rfl⟩
    have hl : ∀ (l : List Tr), (∀ q ∈ l, ∀ m, swpT t u own q q m = true) → ∀ m, swpL t u own l l m = true := by
      intro l
      induction l with
      | nil => intro _ m; exact swpL_nil _ _ _ _ _
      | cons q r ihr => intro h m; rw [swpL_cons, h q (by simp) m, ihr (fun x hx => h x (by simp [hx])) m]; rfl
    rw [hh, hl a.ks ih]
    simp
/-- where nothing may be swapped only what is the same is so -/
theorem swp_no (t u : Tr) (own : Nat) (a : Tr) : ∀ b, swpT t u own a b false = decide (cmpT a b = 0) := by
  induction a using Tr.ind with
  | h a ih =>
    intro b
    have hl : ∀ (l r : List Tr), l.length = r.length → (∀ q ∈ l, ∀ b, swpT t u own q b false = decide (cmpT q b = 0)) → swpL t u own l r false = decide (l = r) := by
      intro l
      induction l with
      | nil =>
        intro r hr _
        have : r = [] := List.length_eq_zero_iff.1 hr.symm
        subst this
        rw [swpL_nil]; simp
      | cons q l' ihr =>
        intro r hr h
        cases r with
        | nil => simp at hr
        | cons p r' =>
          rw [swpL_cons, h q (by simp) p, ihr r' (by simpa using hr) (fun x hx => h x (by simp [hx]))]
          rw [Bool.eq_iff_iff]
          simp [cmpT_zero]
    rw [swpT_eq]
    simp only [Bool.false_and, Bool.false_or]
    rw [Bool.eq_iff_iff, Bool.and_eq_true, decide_eq_true_iff, cmpT_zero, headB_iff]
    constructor
    · rintro ⟨⟨h1, h2, h3⟩, h4⟩
      rw [hl a.ks b.ks h3 ih, decide_eq_true_iff] at h4
      rw [a.eta, b.eta, h1, h2, h4]
    · rintro rfl
      refine ⟨⟨rfl, rfl, rfl⟩, ?_⟩
      rw [hl a.ks a.ks rfl ih]; simp
/-- what is swapped is swapped back -/
theorem swp_back (t u : Tr) (own : Nat) (a : Tr) : ∀ b may, swpT t u own a b may = swpT u t own b a may := by
  induction a using Tr.ind with
  | h a ih =>
    intro b may
    have hl : ∀ (l r : List Tr), l.length = r.length → (∀ q ∈ l, ∀ b m, swpT t u own q b m = swpT u t own b q m) → ∀ m, swpL t u own l r m = swpL u t own r l m := by
      intro l
      induction l with
      | nil =>
        intro r hr _ m
        have : r = [] := List.length_eq_zero_iff.1 hr.symm
        subst this
        rw [swpL_nil, swpL_nil]
      | cons q l' ihr =>
        intro r hr h m
        cases r with
        | nil => simp at hr
        | cons p r' => rw [swpL_cons, swpL_cons, h q (by simp) p m, ihr r' (by simpa using hr) (fun x hx => h x (by simp [hx])) m]
    rw [swpT_eq, swpT_eq, turnB_comm a b t u, headB_comm a b]
    cases hh : headB b a with
    | false => simp
    | true =>
      rw [namesB_head hh, hl a.ks b.ks (headB_iff.1 hh).2.2.symm ih]
/-- what stands for a variable may be swapped for another -/
theorem swp_put {x : Int} (h0 : 0 ≤ x) (h1 : x ≤ 63) (t u : Tr) (a : Tr) : a.shp = true → catT (varsT t) x a = 0 → catT (varsT u) x a = 0 →
    swpT t u (varsT t ||| varsT u) (putX x t a) (putX x u a) true = true := by
  induction a using Tr.ind with
  | h a ih =>
    intro hs ct cu
    by_cases hv : a.k = 1 ∧ a.i = x
    · rw [putX_var hv.1 hv.2, putX_var hv.1 hv.2, swpT_eq, turnB_iff.2 ⟨rfl, rfl⟩]; rfl
    · by_cases hq : (a.k = 7 ∨ a.k = 10) ∧ a.i = x
      · rw [putX_quant h0 h1 hq.1 hq.2, putX_quant h0 h1 hq.1 hq.2]; exact swp_refl _ _ _ _ _
      · cases hf : hasN (freeT a) x with
        | false => rw [putX_unfree h0 h1 t a hs hf, putX_unfree h0 h1 u a hs hf]; exact swp_refl _ _ _ _ _
        | true =>
          have kt := cat_kid h0 h1 hs hq ct
          have ku := cat_kid h0 h1 hs hq cu
          have hn : namesB (varsT t ||| varsT u) (.node a.k a.i (a.ks.map (putX x t))) = false := by
            unfold namesB
            rw [node_k, node_i]
            by_cases hk : a.k = 7 ∨ a.k = 10
            · have ka := (kind_of_shp a hs)
              obtain ⟨_, _, hi⟩ := shp_quant hs hk
              have e1 := cat_quant hk hi.1 hi.2 hf ct
              have e2 := cat_quant hk hi.1 hi.2 hf cu
              rw [hasN_bit hi.1 hi.2, Nat.testBit_or, e1, e2]; simp
            · rw [decide_eq_false hk]; rfl
          have hl : ∀ (l : List Tr), (∀ q ∈ l, swpT t u (varsT t ||| varsT u) (putX x t q) (putX x u q) true = true) → swpL t u (varsT t ||| varsT u) (l.map (putX x t)) (l.map (putX x u)) true = true := by
            intro l
            induction l with
            | nil => intro _; exact swpL_nil _ _ _ _ _
            | cons q r ihr => intro h; rw [List.map_cons, List.map_cons, swpL_cons, h q (by simp), ihr (fun y hy => h y (by simp [hy]))]; rfl
          rw [putX_else hv hq, putX_else hv hq, swpT_eq, hn]
          have hh : headB (.node a.k a.i (a.ks.map (putX x t))) (.node a.k a.i (a.ks.map (putX x u))) = true := headB_iff.2 ⟨rfl, rfl, by simp [node_ks]⟩
          rw [hh, node_ks, node_ks]
          have := hl a.ks fun q hq' => ih q hq' (shp_kid hs hq') (kt q hq') (ku q hq')
          simp [this]
end Go.Proofs.YtjdhmfpkhijkeaaGreat
namespace Go.Proofs.YtjdhmfpkhijkeaaGreat
open Go.RowKit
set_option linter.unusedVariables false
set_option linter.unusedSimpArgs false
abbrev exprV (t : Tr) (A : Option Addr) (c : Nat) : Value := .agg #[.int .i64 t.k, .int .i64 t.i, .slice A t.ks.length c]
theorem env4 {w : World} {a b t u : Tr} {A B T U : Option Addr} {ca cb ct cu : Nat} (ha : IsT w w.heap.size a A ca) (hb : IsT w w.heap.size b B cb) (ht : IsT w w.heap.size t T ct) (hu : IsT w w.heap.size u U cu) :
    Env w ((((w.alloc (.cells #[.int .i64 a.k, .int .i64 a.i, .slice A a.ks.length ca] 26)).alloc (.cells #[.int .i64 b.k, .int .i64 b.i, .slice B b.ks.length cb] 26)).alloc (.cells #[.int .i64 t.k, .int .i64 t.i, .slice T t.ks.length ct] 26)).alloc (.cells #[.int .i64 u.k, .int .i64 u.i, .slice U u.ks.length cu] 26))
      [(w.heap.size + 3, u, U, cu), (w.heap.size + 2, t, T, ct), (w.heap.size + 1, b, B, cb), (w.heap.size, a, A, ca)] := by
  have := (env3 ha hb ht).push (((hu.keep (alB w _) (alB w _).size).keep (alB _ _) (alB _ _).size).keep (alB _ _) (alB _ _).size)
  rw [World.size_alloc, World.size_alloc, World.size_alloc] at this
  exact this
theorem turn_like (a b t u : Tr) : turnB a b t u = (likeB a t && likeB b u) := rfl
set_option maxHeartbeats 4000000 in
set_option maxRecDepth 100000 in
theorem rswap_any (t u : Tr) (own : Nat) (hU : U64 own) : ∀ (N : Nat) (a b : Tr) (A B T U : Option Addr) (ca cb ct cu : Nat) (may : Bool) (w : World), a.sz ≤ N → IsT w w.heap.size a A ca → IsT w w.heap.size b B cb → IsT w w.heap.size t T ct → IsT w w.heap.size u U cu →
    Calls Tryz.prog 45 #[.agg #[.int .i64 a.k, .int .i64 a.i, .slice A a.ks.length ca], .agg #[.int .i64 b.k, .int .i64 b.i, .slice B b.ks.length cb], .agg #[.int .i64 t.k, .int .i64 t.i, .slice T t.ks.length ct], .agg #[.int .i64 u.k, .int .i64 u.i, .slice U u.ks.length cu], .int .u64 (own : Int), .bool may] w fun e w' => e = .returned (.bool (swpT t u own a b may)) ∧ Below w.heap.size w w' := by
  intro N
  induction N with
  | zero => intro a b A B T U ca cb ct cu may w h; have := sz_pos a; omega
  | succ N ih =>
    intro a b A B T U ca cb ct cu may w hN ha hb ht hu
    have IH := Lib.hid ih
    have UU := Lib.hid hU
    have E0 := Lib.hid (env4 ha hb ht hu)
    have SE := Lib.hid (swpT_eq t u own a b may)
    have HH := Lib.hid (show headB a b = true → a.k = b.k ∧ a.i = b.i ∧ a.ks.length = b.ks.length from headB_iff.1)
    have hl := ha.len
    have hl2 := hb.len
    clear ih ha hb ht hu
    go_enter Tryz.func45, Tryz.ntmps45
    go_upto_region 1 with fail
    go_cut [25] (fun v wc => v = .bool (may && turnB a b t u) ∧ Env w wc [(w.heap.size + 3, u, U, cu), (w.heap.size + 2, t, T, ct), (w.heap.size + 1, b, B, cb), (w.heap.size, a, A, ca)])
    case first =>
      cases may with
      | false =>
        go_wp2_with fail
        go_meet
        exact ⟨by simp, E0.out⟩
      | true =>
        obtain ⟨a0, a1, a2⟩ := E0.out.cells w.heap.size a A ca (by simp)
        obtain ⟨t0, t1, t2⟩ := E0.out.cells (w.heap.size + 2) t T ct (by simp)
        go_wp2_with fail
        refine (like_any a t A T ca ct _ (by exact E0.out.tree w.heap.size a A ca (by simp)) (by exact E0.out.tree (w.heap.size + 2) t T ct (by simp))).mono ?_
        rintro e w1 ⟨rfl, hb1⟩
        have E1 := Lib.hid (E0.out.keep hb1)
        clear hb1 a0 a1 a2 t0 t1 t2 E0
        have TL := Lib.hid (turn_like a b t u)
        cases h1 : likeB a t with
        | false =>
          rw [h1] at TL
          go_wp2_with fail
          go_meet
          exact ⟨by rw [TL.out]; rfl, E1.out⟩
        | true =>
          rw [h1] at TL
          obtain ⟨a0, a1, a2⟩ := E1.out.cells (w.heap.size + 1) b B cb (by simp)
          obtain ⟨t0, t1, t2⟩ := E1.out.cells (w.heap.size + 3) u U cu (by simp)
          go_wp2_with fail
          refine (like_any b u B U cb cu _ (by exact E1.out.tree (w.heap.size + 1) b B cb (by simp)) (by exact E1.out.tree (w.heap.size + 3) u U cu (by simp))).mono ?_
          rintro e w2 ⟨rfl, hb2⟩
          have E2 := Lib.hid (E1.out.keep hb2)
          clear hb2 a0 a1 a2 t0 t1 t2 E1
          go_wp2_with fail
          go_meet
          exact ⟨by rw [TL.out]; simp, E2.out⟩
    case rest =>
      obtain ⟨rfl, hE⟩ := hcut
      have E1 := Lib.hid hE
      clear hE E0
      cases h1 : (may && turnB a b t u) with
      | true =>
        rw [h1] at SE
        go_wp2_with fail
        go_ret
        exact ⟨by rw [SE.out]; rfl, E1.out.below⟩
      | false =>
        rw [h1, Bool.false_or] at SE
        clear h1
        go_upto_region 3 with fail
        go_cut [46] (fun v wc => v = .bool (!headB a b) ∧ Env w wc [(w.heap.size + 3, u, U, cu), (w.heap.size + 2, t, T, ct), (w.heap.size + 1, b, B, cb), (w.heap.size, a, A, ca)])
        case first =>
          obtain ⟨a0, a1, a2⟩ := E1.out.cells w.heap.size a A ca (by simp)
          obtain ⟨b0, b1, b2⟩ := E1.out.cells (w.heap.size + 1) b B cb (by simp)
          by_cases hk : a.k = b.k
          · have hk' : (a.k != b.k) = false := by simp [hk]
            by_cases hi : a.i = b.i
            · have hi' : (a.i != b.i) = false := by simp [hi]
              by_cases hn : a.ks.length = b.ks.length
              · have hn' : ((a.ks.length : Int) != (b.ks.length : Int)) = false := by simp [hn]
                have HB := Lib.hid (show headB a b = true from headB_iff.2 ⟨hk, hi, hn⟩)
                clear hk hi hn
                go_wp2_with fail
                go_meet
                exact ⟨by rw [HB.out]; rfl, E1.out⟩
              · have hn' : ((a.ks.length : Int) != (b.ks.length : Int)) = true := by rw [bne_iff_ne]; omega
                have HB := Lib.hid (show headB a b = false from decide_eq_false fun h => hn h.2.2)
                clear hk hi hn
                go_wp2_with fail
                go_meet
                exact ⟨by rw [HB.out]; rfl, E1.out⟩
            · have hi' : (a.i != b.i) = true := by rw [bne_iff_ne]; exact hi
              have HB := Lib.hid (show headB a b = false from decide_eq_false fun h => hi h.2.1)
              clear hk hi
              go_wp2_with fail
              go_meet
              exact ⟨by rw [HB.out]; rfl, E1.out⟩
          · have hk' : (a.k != b.k) = true := by rw [bne_iff_ne]; exact hk
            have HB := Lib.hid (show headB a b = false from decide_eq_false fun h => hk h.1)
            clear hk
            go_wp2_with fail
            go_meet
            exact ⟨by rw [HB.out]; rfl, E1.out⟩
        case rest =>
          obtain ⟨rfl, hE⟩ := hcut
          have E2 := Lib.hid hE
          clear hE E1
          cases h1 : headB a b with
          | false =>
            rw [h1] at SE
            go_wp2_with fail
            go_ret
            exact ⟨by rw [SE.out]; rfl, E2.out.below⟩
          | true =>
            rw [h1, Bool.true_and] at SE
            have HN := Lib.hid (HH.out h1).2.2
            clear h1 HH
            go_upto_region 6 with fail
            go_cut [55] (fun v wc => v = .bool (namesB own a) ∧ Env w wc [(w.heap.size + 3, u, U, cu), (w.heap.size + 2, t, T, ct), (w.heap.size + 1, b, B, cb), (w.heap.size, a, A, ca)])
            case first =>
              obtain ⟨a0, a1, a2⟩ := E2.out.cells w.heap.size a A ca (by simp)
              go_wp2_with fail
              refine (rquantified_any a.k a.i A a.ks.length ca _).mono ?_
              rintro e w3 ⟨rfl, hb3⟩
              have E3 := Lib.hid (E2.out.keep hb3)
              clear hb3 a0 a1 a2 E2
              have NB := Lib.hid (show namesB own a = (decide (a.k = 7 ∨ a.k = 10) && hasN own a.i) from rfl)
              by_cases hq : a.k = 7 ∨ a.k = 10
              · rw [decide_eq_true hq] at NB ⊢
                clear hq
                obtain ⟨a0, a1, a2⟩ := E3.out.cells w.heap.size a A ca (by simp)
                go_wp2_with fail
                refine (rhas_any own a.i _ UU.out).mono ?_
                rintro e w4 ⟨rfl, hw4⟩
                rw [← hw4]
                clear hw4
                go_wp2_with fail
                go_meet
                exact ⟨by rw [NB.out]; rfl, E3.out⟩
              · rw [decide_eq_false hq] at NB ⊢
                clear hq
                go_wp2_with fail
                go_meet
                exact ⟨by rw [NB.out]; rfl, E3.out⟩
            case rest =>
              obtain ⟨rfl, hE⟩ := hcut
              have E3 := Lib.hid hE
              clear hE E2
              go_upto_if 55 with fail
              go_cut [13] (fun v wc => v = .bool (may && !namesB own a) ∧ Env w wc [(w.heap.size + 3, u, U, cu), (w.heap.size + 2, t, T, ct), (w.heap.size + 1, b, B, cb), (w.heap.size, a, A, ca)])
              case first =>
                cases h1 : namesB own a with
                | true =>
                  have NX := Lib.hid (show (may && !namesB own a) = false by rw [h1]; simp)
                  go_wp2_with fail
                  go_meet
                  exact ⟨by rw [NX.out], E3.out⟩
                | false =>
                  have NX := Lib.hid (show (may && !namesB own a) = may by rw [h1]; simp)
                  go_wp2_with fail
                  go_meet
                  exact ⟨by rw [NX.out], E3.out⟩
              case rest =>
                obtain ⟨rfl, hE⟩ := hcut
                have E4 := Lib.hid hE
                clear hE E3
                obtain ⟨mm, hmm⟩ : ∃ mm, mm = (may && !namesB own a) := ⟨_, rfl⟩
                rw [← hmm] at SE ⊢
                clear hmm
                obtain ⟨a0, a1, a2⟩ := E4.out.cells w.heap.size a A ca (by simp)
                go_wp2_with fail
                clear a0 a1 a2
                go_loopw [59] (fun i wr => ∃ m : Nat, m ≤ a.ks.length ∧ i = .int .i64 m ∧ swpL t u own (a.ks.take m) (b.ks.take m) mm = true ∧ Env w wr [(w.heap.size + 3, u, U, cu), (w.heap.size + 2, t, T, ct), (w.heap.size + 1, b, B, cb), (w.heap.size, a, A, ca)]) (fun i _ => a.ks.length - (intOf i).toNat)
                case atStart => exact ⟨0, Nat.zero_le _, rfl, by simp [swpL_nil], E4.out⟩
                case round =>
                  obtain ⟨m, hm', rfl, hal, hE⟩ := hrel
                  have AL := Lib.hid hal
                  have E5 := Lib.hid hE
                  clear hal hE E4
                  by_cases hlt : m < a.ks.length
                  · have hltb : m < b.ks.length := by rw [← HN.out]; exact hlt
                    have TK := Lib.hid (swpL_take t u own mm a.ks b.ks m hlt hltb)
                    have FF := Lib.hid (swpL_false t u own mm a.ks b.ks m hlt hltb)
                    have kz := kid_sz a m hlt
                    obtain ⟨ba, oa, Aa, ka, eA, hla, p0, p1, p2, hka⟩ := (E5.out.tree w.heap.size a A ca (by simp)).kid m hlt
                    obtain ⟨bb, ob, Ab, kb, eB, hlb, q0, q1, q2, hkb⟩ := (E5.out.tree (w.heap.size + 1) b B cb (by simp)).kid m hltb
                    obtain ⟨qa, hqa⟩ : ∃ qa, qa = a.ks[m] := ⟨_, rfl⟩
                    obtain ⟨qb, hqb⟩ : ∃ qb, qb = b.ks[m] := ⟨_, rfl⟩
                    rw [← hqa] at p0 p1 p2 hka TK FF kz
                    rw [← hqb] at q0 q1 q2 hkb TK FF
                    subst eA eB
                    have KA := Lib.hid hka
                    have KB := Lib.hid hkb
                    have x2 := (E5.out.cells w.heap.size a (some ⟨ba, oa, none⟩) ca (by simp)).2.2
                    have y2 := (E5.out.cells (w.heap.size + 1) b (some ⟨bb, ob, none⟩) cb (by simp)).2.2
                    obtain ⟨t0, t1, t2⟩ := E5.out.cells (w.heap.size + 2) t T ct (by simp)
                    obtain ⟨u0, u1, u2⟩ := E5.out.cells (w.heap.size + 3) u U cu (by simp)
                    have BB : Below wr.drew.heap.size wr.drew wr.drew := Below.refl _ _
                    have SS := Lib.hid (fun (W : World) (h : Below wr.drew.heap.size wr.drew W) => And.intro (And.intro ((h.cell (block_lt_of_cell x2)).trans x2) ((h.cell (block_lt_of_cell y2)).trans y2)) (And.intro (And.intro ((h.cell hla).trans p0) (And.intro ((h.cell hla).trans p1) ((h.cell hla).trans p2))) (And.intro (And.intro ((h.cell hlb).trans q0) (And.intro ((h.cell hlb).trans q1) ((h.cell hlb).trans q2))) (And.intro (And.intro ((h.cell (block_lt_of_cell t0)).trans t0) (And.intro ((h.cell (block_lt_of_cell t1)).trans t1) ((h.cell (block_lt_of_cell t2)).trans t2))) (And.intro ((h.cell (block_lt_of_cell u0)).trans u0) (And.intro ((h.cell (block_lt_of_cell u1)).trans u1) ((h.cell (block_lt_of_cell u2)).trans u2)))))))
                    have hm0 : (0 : Int) ≤ (m : Int) := by omega
                    have hm1 : (m : Int) < (a.ks.length : Int) := by omega
                    have hm2 : (m : Int) < (b.ks.length : Int) := by omega
                    clear hqa hqb hka hkb p0 p1 p2 q0 q1 q2 x2 y2 t0 t1 t2 u0 u1 u2
                    go_wp2_with fail
                    go_region_held3 (fun w' => (w'.cell? ⟨w.heap.size, 2, none⟩ = some (.slice (some ⟨ba, oa, none⟩) a.ks.length ca) ∧ w'.cell? ⟨w.heap.size + 1, 2, none⟩ = some (.slice (some ⟨bb, ob, none⟩) b.ks.length cb)) ∧ ((w'.cell? ⟨ba, oa + m * 3, none⟩ = some (.int .i64 qa.k) ∧ w'.cell? ⟨ba, oa + m * 3 + 1, none⟩ = some (.int .i64 qa.i) ∧ w'.cell? ⟨ba, oa + m * 3 + 2, none⟩ = some (.slice Aa qa.ks.length ka)) ∧ ((w'.cell? ⟨bb, ob + m * 3, none⟩ = some (.int .i64 qb.k) ∧ w'.cell? ⟨bb, ob + m * 3 + 1, none⟩ = some (.int .i64 qb.i) ∧ w'.cell? ⟨bb, ob + m * 3 + 2, none⟩ = some (.slice Ab qb.ks.length kb)) ∧ ((w'.cell? ⟨w.heap.size + 2, 0, none⟩ = some (.int .i64 t.k) ∧ w'.cell? ⟨w.heap.size + 2, 1, none⟩ = some (.int .i64 t.i) ∧ w'.cell? ⟨w.heap.size + 2, 2, none⟩ = some (.slice T t.ks.length ct)) ∧ (w'.cell? ⟨w.heap.size + 3, 0, none⟩ = some (.int .i64 u.k) ∧ w'.cell? ⟨w.heap.size + 3, 1, none⟩ = some (.int .i64 u.i) ∧ w'.cell? ⟨w.heap.size + 3, 2, none⟩ = some (.slice U u.ks.length cu))))))
                      (exact SS.out _ BB)
                      (first
                        | (go_at_call 45; refine (IH.out qa qb Aa Ab T U ka kb ct cu mm _ (by omega) (KA.out.keep ((Below.refl _ _).drew) (Nat.le_refl _)) (KB.out.keep ((Below.refl _ _).drew) (Nat.le_refl _)) ((E5.out.keep ((Below.refl _ _).drew)).tree (w.heap.size + 2) t T ct (by simp)) ((E5.out.keep ((Below.refl _ _).drew)).tree (w.heap.size + 3) u U cu (by simp))).mono ?_; rintro e w6 ⟨rfl, hb6⟩; replace BB := BB.trans (hb6.mono BB.size); clear hb6))
                    have E6 := Lib.hid ((E5.out.keep ((Below.refl _ _).drew)).keep BB)
                    rw [AL.out, Bool.true_and] at TK
                    cases hr : swpT t u own qa qb mm with
                    | true =>
                      rw [hr] at TK
                      go_wp2_with fail
                      go_roundw
                      case rel => exact ⟨m + 1, by omega, by go_num, TK.out, E6.out⟩
                      case measure => simp [intOf]; omega
                    | false =>
                      have F := Lib.hid (FF.out hr)
                      go_wp2_with fail
                      go_ret
                      exact ⟨by rw [SE.out, F.out]; rfl, E6.out.below⟩
                  · obtain rfl : m = a.ks.length := by omega
                    have F := Lib.hid (show swpL t u own a.ks b.ks mm = true by have := AL.out; rw [List.take_length, HN.out, List.take_length] at this; exact this)
                    go_wp2_with fail
                    go_ret
                    exact ⟨by rw [SE.out, F.out]; rfl, E5.out.below⟩
end Go.Proofs.YtjdhmfpkhijkeaaGreat
