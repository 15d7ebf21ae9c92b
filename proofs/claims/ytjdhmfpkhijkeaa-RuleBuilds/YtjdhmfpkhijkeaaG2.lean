/- The document's Sorted, Swapped. -/
import Derived.Test.YtjdhmfpkhijkeaaEV
import Derived.Test.YtjdhmfpkhijkeaaE12
import Derived.Deep.RegionHeld3
namespace Go.Proofs.Ytjdhmfpkhijkeaa
open Go.RowKit
set_option linter.unusedVariables false
set_option linter.unusedSimpArgs false
/-- of each its sort -/
def sortsB (ks : List Tr) (cs : List Bool) : Bool := (List.range ks.length).all fun j => termB (ks.getD j default).k == cs.getD j false
def sortedN (ks : List Tr) (cs : List Bool) : Nat := if firstL ks ≠ 0 then firstL ks else if sortsB ks cs = true then 0 else 40
theorem sortsB_true {ks : List Tr} {cs : List Bool} (h : ∀ j, j < ks.length → termB (ks.getD j default).k = cs.getD j false) : sortsB ks cs = true := by
  unfold sortsB
  rw [List.all_eq_true]
  intro j hj
  rw [h j (List.mem_range.1 hj)]
  exact beq_self_eq_true _
theorem sortsB_false {ks : List Tr} {cs : List Bool} {m : Nat} (hm : m < ks.length) (h : termB (ks.getD m default).k ≠ cs.getD m false) : sortsB ks cs = false := by
  cases e : sortsB ks cs with
  | false => rfl
  | true =>
    unfold sortsB at e
    rw [List.all_eq_true] at e
    have := e m (List.mem_range.2 hm)
    simp at this
    exact absurd (by simpa using this) h
theorem firstL_done {ks : List Tr} (h : firstL ks = firstL (ks.drop ks.length)) : firstL ks = 0 := by rw [h]; simp [firstL]
theorem firstL_zero : ∀ {ks : List Tr}, firstL ks = 0 → ∀ q ∈ ks, rightN q = 0
  | [], _, q, hq => by simp at hq
  | t :: r, h, q, hq => by
    simp only [firstL] at h
    by_cases ht : rightN t = 0
    · rw [if_neg (by simp [ht])] at h
      rcases List.mem_cons.1 hq with rfl | hq
      · exact ht
      · exact firstL_zero h q hq
    · rw [if_pos ht] at h
      exact absurd h ht
theorem getD_at (ks : List Tr) (m : Nat) (h : m < ks.length) : ks.getD m default = ks[m] := by simp [List.getD_eq_getElem?_getD, h]
/-- a string that names sorts -/
def Names (s : ByteArray) (cs : List Bool) : Prop := ∀ m (h : m < s.size), ((s[m].toNat : Int) == 116) = cs.getD m false
set_option maxHeartbeats 2000000 in
set_option maxRecDepth 100000 in
theorem rsorted_any (l : Tr) (A : Option Addr) (c : Nat) (s : ByteArray) (cs : List Bool) (w : World) (hl : IsT w w.heap.size l A c) (hs : s.size = l.ks.length) (hn : Names s cs) :
    Calls Try.prog 75 #[.slice A l.ks.length c, .string s] w fun e w' => e = .returned (.int .i64 (sortedN l.ks cs : Nat)) ∧ Below w.heap.size w w' := by
  have HT := Lib.hid hl
  have hl1 := hl.len
  have HS := Lib.hid hs
  have HN := Lib.hid hn
  clear hl hs hn
  go_enter Try.func75, Try.ntmps75
  go_wp2_with fail
  go_loopw [11] (fun i wr => ∃ m : Nat, m ≤ l.ks.length ∧ i = .int .i64 m ∧ firstL l.ks = firstL (l.ks.drop m) ∧ Below w.heap.size w wr) (fun i _ => l.ks.length - (intOf i).toNat)
  case atStart => exact ⟨0, Nat.zero_le _, rfl, by simp, Below.refl _ _⟩
  case round =>
    obtain ⟨m, hm', rfl, hf, hbr⟩ := hrel
    have HF := Lib.hid hf
    clear hf
    by_cases hlt : m < l.ks.length
    · obtain ⟨b, o, A', c', rfl, hlt', p0, p1, p2, hk⟩ := HT.out.kid m hlt
      have S := Lib.hid (firstL_skip l.ks m hlt HF.out)
      have Z := Lib.hid (firstL_hit l.ks m hlt HF.out)
      obtain ⟨q, hq⟩ : ∃ q, q = l.ks[m] := ⟨_, rfl⟩
      rw [← hq] at p0 p1 p2 hk S Z
      clear hq
      have e0 := (hbr.cell hlt').trans p0
      have e1 := (hbr.cell hlt').trans p1
      have e2 := (hbr.cell hlt').trans p2
      have E1 := Lib.hid (env1 (hk.keep hbr hbr.size))
      clear p0 p1 p2 hk
      go_wp2_with fail
      refine (rright_any q A' c' _ (by exact E1.out.tree wr.heap.size q A' c' (by simp))).mono ?_
      rintro e w1 ⟨rfl, hb1⟩
      have E2 := Lib.hid (E1.out.keep hb1)
      clear hb1 e0 e1 e2 E1
      obtain ⟨z0, z1, z2⟩ := E2.out.cells wr.heap.size q A' c' (by simp)
      by_cases hr : rightN q = 0
      · have h1 : ((rightN q : Int) != 0) = false := by simpa using hr
        have S2 := Lib.hid (S.out hr)
        clear hr
        go_wp2_with fail
        go_roundw
        case rel => exact ⟨m + 1, by omega, by go_num, S2.out, hbr.trans (E2.out.below.mono hbr.size)⟩
        case measure => simp [intOf]; omega
      · have h1 : ((rightN q : Int) != 0) = true := by rw [bne_iff_ne]; omega
        have F := Lib.hid (show sortedN l.ks cs = rightN q by unfold sortedN; rw [Z.out hr, if_pos hr])
        clear hr
        go_wp2_with fail
        refine (rright_any q A' c' _ (by exact E2.out.tree wr.heap.size q A' c' (by simp))).mono ?_
        rintro e w2 ⟨rfl, hb2⟩
        have E3 := Lib.hid (E2.out.keep hb2)
        clear hb2
        go_wp2_with fail
        go_ret
        exact ⟨by rw [F.out]; rfl, hbr.trans (E3.out.below.mono hbr.size)⟩
    · obtain rfl : m = l.ks.length := by omega
      have F0 := Lib.hid (firstL_done HF.out)
      have HB := Lib.hid hbr
      go_wp2_with fail
      clear hbr
      go_loopw [23] (fun i wx => ∃ m : Nat, m ≤ l.ks.length ∧ i = .int .i64 m ∧ (∀ j, j < m → termB (l.ks.getD j default).k = cs.getD j false) ∧ Below w.heap.size w wx) (fun i _ => l.ks.length - (intOf i).toNat)
      case atStart => exact ⟨0, Nat.zero_le _, rfl, by intro j hj; omega, HB.out⟩
      case round =>
        obtain ⟨m, hm', rfl, hall, hbr⟩ := hrel
        have AL := Lib.hid hall
        clear hall
        by_cases hlt : m < l.ks.length
        · obtain ⟨b, o, A', c', rfl, hlt', p0, p1, p2, hk⟩ := HT.out.kid m hlt
          have GA := Lib.hid (getD_at l.ks m hlt)
          have SF := Lib.hid (fun h => sortsB_false (cs := cs) hlt h)
          have hsz : m < s.size := by rw [HS.out]; exact hlt
          have NM := Lib.hid (HN.out m hsz)
          obtain ⟨q, hq⟩ : ∃ q, q = l.ks[m] := ⟨_, rfl⟩
          rw [← hq] at p0 p1 p2 hk GA
          rw [GA.out] at SF
          clear hq
          have e0 := (hbr.cell hlt').trans p0
          have e1 := (hbr.cell hlt').trans p1
          have e2 := (hbr.cell hlt').trans p2
          have E1 := Lib.hid (env1 (hk.keep hbr hbr.size))
          clear p0 p1 p2 hk
          obtain ⟨x, hx⟩ : ∃ x, ((s[m].toNat : Int) == 116) = x := ⟨_, rfl⟩
          obtain ⟨y, hy0⟩ : ∃ y, termB q.k = y := ⟨_, rfl⟩
          rw [hx] at NM
          cases x <;> cases y
          · go_wp2_with fail
            clear e0 e1 e2
            have E2 := Lib.hid (E1.out.keep ((Below.refl _ _).drew))
            have BB : Below _ _ _ := Below.refl ((wr.alloc (.cells #[.int .i64 q.k, .int .i64 q.i, .slice A' q.ks.length c'] 24)).drew.heap.size) ((wr.alloc (.cells #[.int .i64 q.k, .int .i64 q.i, .slice A' q.ks.length c'] 24)).drew)
            have hm0 : (0 : Int) ≤ (m : Int) := by omega
            have hm1 : (m : Int) < (s.size : Int) := by omega
            go_region_held3 (fun w' => w'.cell? ⟨wr.heap.size, 0, none⟩ = some (.int .i64 q.k) ∧ w'.cell? ⟨wr.heap.size, 1, none⟩ = some (.int .i64 q.i) ∧ w'.cell? ⟨wr.heap.size, 2, none⟩ = some (.slice A' q.ks.length c'))
              (exact (E2.out.keep BB).cells wr.heap.size q A' c' (by simp))
              (first
                | (go_at_call 57; refine (term_any q.k q.i A' q.ks.length c' _).mono ?_; rintro e w6 ⟨rfl, hb6⟩; replace BB := BB.trans (hb6.mono BB.size); clear hb6))
            all_goals
              have E3 := Lib.hid (E2.out.keep BB)
              have AL2 := Lib.hid (show termB q.k = cs.getD m false → ∀ j, j < m + 1 → termB (l.ks.getD j default).k = cs.getD j false from fun ht j hj => by
                rcases Nat.lt_or_ge j m with h | h
                · exact AL.out j h
                · obtain rfl : j = m := by omega
                  rw [GA.out]; exact ht)
              have F := Lib.hid (show termB q.k ≠ cs.getD m false → sortedN l.ks cs = 40 from fun ht => by unfold sortedN; rw [if_neg (by rw [F0.out]; simp), SF.out ht]; simp)
              rw [hy0, ← NM.out] at F AL2
              go_wp2_with fail
              go_roundw
              case rel => exact ⟨m + 1, by omega, by go_num, AL2.out rfl, hbr.trans (E3.out.below.mono hbr.size)⟩
              case measure => simp [intOf]; omega
          · go_wp2_with fail
            clear e0 e1 e2
            have E2 := Lib.hid (E1.out.keep ((Below.refl _ _).drew))
            have BB : Below _ _ _ := Below.refl ((wr.alloc (.cells #[.int .i64 q.k, .int .i64 q.i, .slice A' q.ks.length c'] 24)).drew.heap.size) ((wr.alloc (.cells #[.int .i64 q.k, .int .i64 q.i, .slice A' q.ks.length c'] 24)).drew)
            have hm0 : (0 : Int) ≤ (m : Int) := by omega
            have hm1 : (m : Int) < (s.size : Int) := by omega
            go_region_held3 (fun w' => w'.cell? ⟨wr.heap.size, 0, none⟩ = some (.int .i64 q.k) ∧ w'.cell? ⟨wr.heap.size, 1, none⟩ = some (.int .i64 q.i) ∧ w'.cell? ⟨wr.heap.size, 2, none⟩ = some (.slice A' q.ks.length c'))
              (exact (E2.out.keep BB).cells wr.heap.size q A' c' (by simp))
              (first
                | (go_at_call 57; refine (term_any q.k q.i A' q.ks.length c' _).mono ?_; rintro e w6 ⟨rfl, hb6⟩; replace BB := BB.trans (hb6.mono BB.size); clear hb6))
            all_goals
              have E3 := Lib.hid (E2.out.keep BB)
              have AL2 := Lib.hid (show termB q.k = cs.getD m false → ∀ j, j < m + 1 → termB (l.ks.getD j default).k = cs.getD j false from fun ht j hj => by
                rcases Nat.lt_or_ge j m with h | h
                · exact AL.out j h
                · obtain rfl : j = m := by omega
                  rw [GA.out]; exact ht)
              have F := Lib.hid (show termB q.k ≠ cs.getD m false → sortedN l.ks cs = 40 from fun ht => by unfold sortedN; rw [if_neg (by rw [F0.out]; simp), SF.out ht]; simp)
              rw [hy0, ← NM.out] at F AL2
              go_wp2_with fail
              go_ret
              exact ⟨by rw [F.out (by simp)]; rfl, hbr.trans (E3.out.below.mono hbr.size)⟩
          · go_wp2_with fail
            clear e0 e1 e2
            have E2 := Lib.hid (E1.out.keep ((Below.refl _ _).drew))
            have BB : Below _ _ _ := Below.refl ((wr.alloc (.cells #[.int .i64 q.k, .int .i64 q.i, .slice A' q.ks.length c'] 24)).drew.heap.size) ((wr.alloc (.cells #[.int .i64 q.k, .int .i64 q.i, .slice A' q.ks.length c'] 24)).drew)
            have hm0 : (0 : Int) ≤ (m : Int) := by omega
            have hm1 : (m : Int) < (s.size : Int) := by omega
            go_region_held3 (fun w' => w'.cell? ⟨wr.heap.size, 0, none⟩ = some (.int .i64 q.k) ∧ w'.cell? ⟨wr.heap.size, 1, none⟩ = some (.int .i64 q.i) ∧ w'.cell? ⟨wr.heap.size, 2, none⟩ = some (.slice A' q.ks.length c'))
              (exact (E2.out.keep BB).cells wr.heap.size q A' c' (by simp))
              (first
                | (go_at_call 57; refine (term_any q.k q.i A' q.ks.length c' _).mono ?_; rintro e w6 ⟨rfl, hb6⟩; replace BB := BB.trans (hb6.mono BB.size); clear hb6))
            all_goals
              have E3 := Lib.hid (E2.out.keep BB)
              have AL2 := Lib.hid (show termB q.k = cs.getD m false → ∀ j, j < m + 1 → termB (l.ks.getD j default).k = cs.getD j false from fun ht j hj => by
                rcases Nat.lt_or_ge j m with h | h
                · exact AL.out j h
                · obtain rfl : j = m := by omega
                  rw [GA.out]; exact ht)
              have F := Lib.hid (show termB q.k ≠ cs.getD m false → sortedN l.ks cs = 40 from fun ht => by unfold sortedN; rw [if_neg (by rw [F0.out]; simp), SF.out ht]; simp)
              rw [hy0, ← NM.out] at F AL2
              go_wp2_with fail
              go_ret
              exact ⟨by rw [F.out (by simp)]; rfl, hbr.trans (E3.out.below.mono hbr.size)⟩
          · go_wp2_with fail
            clear e0 e1 e2
            have E2 := Lib.hid (E1.out.keep ((Below.refl _ _).drew))
            have BB : Below _ _ _ := Below.refl ((wr.alloc (.cells #[.int .i64 q.k, .int .i64 q.i, .slice A' q.ks.length c'] 24)).drew.heap.size) ((wr.alloc (.cells #[.int .i64 q.k, .int .i64 q.i, .slice A' q.ks.length c'] 24)).drew)
            have hm0 : (0 : Int) ≤ (m : Int) := by omega
            have hm1 : (m : Int) < (s.size : Int) := by omega
            go_region_held3 (fun w' => w'.cell? ⟨wr.heap.size, 0, none⟩ = some (.int .i64 q.k) ∧ w'.cell? ⟨wr.heap.size, 1, none⟩ = some (.int .i64 q.i) ∧ w'.cell? ⟨wr.heap.size, 2, none⟩ = some (.slice A' q.ks.length c'))
              (exact (E2.out.keep BB).cells wr.heap.size q A' c' (by simp))
              (first
                | (go_at_call 57; refine (term_any q.k q.i A' q.ks.length c' _).mono ?_; rintro e w6 ⟨rfl, hb6⟩; replace BB := BB.trans (hb6.mono BB.size); clear hb6))
            all_goals
              have E3 := Lib.hid (E2.out.keep BB)
              have AL2 := Lib.hid (show termB q.k = cs.getD m false → ∀ j, j < m + 1 → termB (l.ks.getD j default).k = cs.getD j false from fun ht j hj => by
                rcases Nat.lt_or_ge j m with h | h
                · exact AL.out j h
                · obtain rfl : j = m := by omega
                  rw [GA.out]; exact ht)
              have F := Lib.hid (show termB q.k ≠ cs.getD m false → sortedN l.ks cs = 40 from fun ht => by unfold sortedN; rw [if_neg (by rw [F0.out]; simp), SF.out ht]; simp)
              rw [hy0, ← NM.out] at F AL2
              go_wp2_with fail
              go_roundw
              case rel => exact ⟨m + 1, by omega, by go_num, AL2.out rfl, hbr.trans (E3.out.below.mono hbr.size)⟩
              case measure => simp [intOf]; omega
        · obtain rfl : m = l.ks.length := by omega
          have F := Lib.hid (show sortedN l.ks cs = 0 by unfold sortedN; rw [if_neg (by rw [F0.out]; simp), if_pos (sortsB_true AL.out)])
          go_wp2_with fail
          go_ret
          exact ⟨by rw [F.out]; rfl, hbr⟩
end Go.Proofs.Ytjdhmfpkhijkeaa
