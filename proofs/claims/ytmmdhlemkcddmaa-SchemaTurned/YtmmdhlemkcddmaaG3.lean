/- sameHead, isQuantifier, search, listFault of package schema. -/
import Derived.Test.YtmmdhlemkcddmaaG2
import Derived.Test.YtmmdhlemkcddmaaFO
namespace Go.Proofs.Ytmmdhlemkcddmaa
open Go.RowKit
set_option linter.unusedVariables false
set_option linter.unusedSimpArgs false
set_option maxHeartbeats 1000000 in
theorem sHead_any (a b : Tr) (A B : Option Addr) (ca cb : Nat) (w : World) (ha : IsT w w.heap.size a A ca) (hb : IsT w w.heap.size b B cb) :
    Calls Try.prog 122 #[.agg #[.int .i64 a.k, .int .i64 a.i, .slice A a.ks.length ca], .agg #[.int .i64 b.k, .int .i64 b.i, .slice B b.ks.length cb]] w fun e w' => e = .returned (.bool (headB a b)) ∧ Below w.heap.size w w' := by
  have E1 := Lib.hid (env2 ha hb)
  obtain ⟨a0, a1, a2⟩ := E1.out.cells w.heap.size a A ca (by simp)
  obtain ⟨b0, b1, b2⟩ := E1.out.cells (w.heap.size + 1) b B cb (by simp)
  clear ha hb
  by_cases hk : a.k = b.k
  · have hk' : (a.k == b.k) = true := by simp [hk]
    by_cases hi : a.i = b.i
    · have hi' : (a.i == b.i) = true := by simp [hi]
      by_cases hn : a.ks.length = b.ks.length
      · have hn' : ((a.ks.length : Int) == (b.ks.length : Int)) = true := by simp [hn]
        have HB := Lib.hid (show headB a b = true from headB_iff.2 ⟨hk, hi, hn⟩)
        clear hk hi hn
        go_enter Try.func122, Try.ntmps122
        go_wp2_with fail
        go_ret
        exact ⟨by rw [HB.out]; rfl, E1.out.below⟩
      · have hn' : ((a.ks.length : Int) == (b.ks.length : Int)) = false := by rw [beq_eq_false_iff_ne]; omega
        have HB := Lib.hid (show headB a b = false from decide_eq_false fun h => hn h.2.2)
        clear hk hi hn
        go_enter Try.func122, Try.ntmps122
        go_wp2_with fail
        go_ret
        exact ⟨by rw [HB.out]; rfl, E1.out.below⟩
    · have hi' : (a.i == b.i) = false := by rw [beq_eq_false_iff_ne]; exact hi
      have HB := Lib.hid (show headB a b = false from decide_eq_false fun h => hi h.2.1)
      clear hk hi
      go_enter Try.func122, Try.ntmps122
      go_wp2_with fail
      go_ret
      exact ⟨by rw [HB.out]; rfl, E1.out.below⟩
  · have hk' : (a.k == b.k) = false := by rw [beq_eq_false_iff_ne]; exact hk
    have HB := Lib.hid (show headB a b = false from decide_eq_false fun h => hk h.1)
    clear hk
    go_enter Try.func122, Try.ntmps122
    go_wp2_with fail
    go_ret
    exact ⟨by rw [HB.out]; rfl, E1.out.below⟩
set_option maxHeartbeats 400000 in
theorem hIsQuant_any (k i : Int) (A : Option Addr) (n c : Nat) (w : World) :
    Calls Try.prog 124 #[.agg #[.int .i64 k, .int .i64 i, .slice A n c]] w fun e w' => e = .returned (.bool (decide (k = 7 ∨ k = 10))) ∧ Below w.heap.size w w' := by
  have hb : Below w.heap.size w (w.alloc (.cells #[.int .i64 k, .int .i64 i, .slice A n c] 24)) := (Below.refl _ _).alloc (Nat.le_refl _) _
  by_cases h1 : k = 7
  · subst h1
    go_enter Try.func124, Try.ntmps124
    go_wp2
    go_ret
    exact ⟨rfl, hb⟩
  · have h1' : (k == 7) = false := by simpa using h1
    by_cases h2 : k = 10
    · subst h2
      go_enter Try.func124, Try.ntmps124
      go_wp2
      go_ret
      exact ⟨rfl, hb⟩
    · have h2' : (k == 10) = false := by simpa using h2
      have T := Lib.hid (show decide (k = 7 ∨ k = 10) = false by simp [h1, h2])
      go_enter Try.func124, Try.ntmps124
      go_wp2
      go_ret
      exact ⟨by rw [T.out]; rfl, hb⟩
/-! ### listFault and the search for what is not right -/
set_option maxHeartbeats 400000 in
theorem lfault1_any (t : Tr) (A : Option Addr) (c : Nat) (w : World) (ht : IsT w w.heap.size t A c) :
    Calls Try.prog 83 #[.agg #[.int .i64 t.k, .int .i64 t.i, .slice A t.ks.length c]] w fun e w' => e = .returned (.bool (!decide (rightN t = 0))) ∧ Below w.heap.size w w' := by
  have E1 := Lib.hid (env1 ht)
  obtain ⟨a0, a1, a2⟩ := E1.out.cells w.heap.size t A c (by simp)
  clear ht
  go_enter Try.func83, Try.ntmps83
  go_wp2_with fail
  refine (right_any t A c _ (by exact E1.out.tree w.heap.size t A c (by simp))).mono ?_
  rintro e w1 ⟨rfl, hb1⟩
  have E2 := Lib.hid (E1.out.keep hb1)
  clear hb1
  by_cases hr : rightN t = 0
  · have h1 : ((rightN t : Int) != 0) = false := by simpa using hr
    have D := Lib.hid (decide_eq_true hr)
    clear hr
    go_wp2_with fail
    go_ret
    exact ⟨by rw [D.out]; rfl, E2.out.below⟩
  · have h1 : ((rightN t : Int) != 0) = true := by rw [bne_iff_ne]; omega
    have D := Lib.hid (decide_eq_false hr)
    clear hr
    go_wp2_with fail
    go_ret
    exact ⟨by rw [D.out]; rfl, E2.out.below⟩
/-- what the search finds: the first that is not right -/
def SeaP (w : World) (l : Tr) (e : Ending) (w' : World) : Prop :=
  Below w.heap.size w w' ∧ ((firstL l.ks = 0 ∧ e = .returned (.tuple #[.agg #[.int .i64 0, .int .i64 0, .slice none 0 0], .bool false])) ∨
    ∃ q A' c', firstL l.ks = rightN q ∧ rightN q ≠ 0 ∧ IsT w w.heap.size q A' c' ∧ e = .returned (.tuple #[.agg #[.int .i64 q.k, .int .i64 q.i, .slice A' q.ks.length c'], .bool true]))
set_option maxHeartbeats 2000000 in
theorem search_any (l : Tr) (A : Option Addr) (c : Nat) (w : World) (hl : IsT w w.heap.size l A c) :
    Calls Try.prog 82 #[.slice A l.ks.length c, .func (.func 83) #[] #[]] w (SeaP w l) := by
  have HT := Lib.hid hl
  have hl1 := hl.len
  have N0 := Lib.hid (Box3.new w (.int .i64 0) (.int .i64 0) (.slice none 0 0))
  have B0 := Lib.hid (alB w (.cells #[.int .i64 0, .int .i64 0, .slice none 0 0] 24))
  clear hl
  go_enter Try.func82, Try.ntmps82
  go_wp2_with fail
  go_loopw [11] (fun i wr => ∃ m : Nat, m ≤ l.ks.length ∧ i = .int .i64 m ∧ firstL l.ks = firstL (l.ks.drop m) ∧ Below w.heap.size w wr ∧ Box3 wr w.heap.size (.int .i64 0) (.int .i64 0) (.slice none 0 0)) (fun i _ => l.ks.length - (intOf i).toNat)
  case atStart => exact ⟨0, Nat.zero_le _, rfl, by simp, B0.out, N0.out⟩
  case round =>
    obtain ⟨m, hm', rfl, hf, hbr, hnb⟩ := hrel
    have HF := Lib.hid hf
    have NB := Lib.hid hnb
    clear hf
    by_cases hlt : m < l.ks.length
    · obtain ⟨b, o, A', c', rfl, hlt', p0, p1, p2, hk⟩ := HT.out.kid m hlt
      have S := Lib.hid (firstL_skip l.ks m hlt HF.out)
      have Z := Lib.hid (firstL_hit l.ks m hlt HF.out)
      obtain ⟨q, hq⟩ : ∃ q, q = l.ks[m] := ⟨_, rfl⟩
      rw [← hq] at p0 p1 p2 hk S Z
      clear hq
      have e0 := (hbr.cell hlt').trans p0
      have e1 := (hbr.cell hlt').trans p1
      have e2 := (hbr.cell hlt').trans p2
      have HK := Lib.hid hk
      have E1 := Lib.hid (env1 (hk.keep hbr hbr.size))
      have hsz := hnb.lt
      have N1 := Lib.hid (hnb.keep (alB wr (.cells #[.int .i64 q.k, .int .i64 q.i, .slice A' q.ks.length c'] 24)) hsz)
      clear p0 p1 p2 hk hnb
      go_wp2_with fail
      refine (lfault1_any q A' c' _ (by exact E1.out.tree wr.heap.size q A' c' (by simp))).mono ?_
      rintro e w1 ⟨rfl, hb1⟩
      have E2 := Lib.hid (E1.out.keep hb1)
      have N2 := Lib.hid (N1.out.keep hb1 N1.out.lt)
      have B2 := Lib.hid (hbr.trans (E2.out.below.mono hbr.size))
      clear hb1 e0 e1 e2 E1 N1
      obtain ⟨z0, z1, z2⟩ := E2.out.cells wr.heap.size q A' c' (by simp)
      by_cases hr : rightN q = 0
      · have S2 := Lib.hid (S.out hr)
        rw [decide_eq_true hr]
        clear hr
        go_wp2_with fail
        go_roundw
        case rel => exact ⟨m + 1, by omega, by go_num, S2.out, B2.out, N2.out⟩
        case measure => simp [intOf]; omega
      · have HR := Lib.hid hr
        have G := Lib.hid (Z.out hr)
        rw [decide_eq_false hr]
        clear hr
        have f0 := N2.out.frozen 0
        have f1 := N2.out.frozen 1
        have f2 := N2.out.frozen 2
        obtain ⟨n0, n1, n2⟩ := N2.out.cells
        go_wp2_with fail
        obtain ⟨x0, x1, x2⟩ := (N2.out.setall (.int .i64 q.k) (.int .i64 q.i) (.slice A' q.ks.length c')).cells
        exact bodyPost_ret (v := .tuple #[.agg #[.int .i64 q.k, .int .i64 q.i, .slice A' q.ks.length c'], .bool true]) (by simp [results, Try.results82, go_sem, x0, x1, x2]) rfl ⟨below_set3 B2.out _ _ _ (Nat.le_refl _), .inr ⟨q, A', c', G.out, HR.out, HK.out, rfl⟩⟩
    · obtain rfl : m = l.ks.length := by omega
      have F := Lib.hid (firstL_done HF.out)
      have N1 := Lib.hid (hnb.keep (alB wr (.cells #[.int .i64 0, .int .i64 0, .slice none 0 0] 24)) hnb.lt)
      have B1 := Lib.hid (hbr.trans ((alB wr (.cells #[.int .i64 0, .int .i64 0, .slice none 0 0] 24)).mono hbr.size))
      have f0 := N1.out.frozen 0
      have f1 := N1.out.frozen 1
      have f2 := N1.out.frozen 2
      obtain ⟨n0, n1, n2⟩ := N1.out.cells
      go_wp2_with fail
      obtain ⟨x0, x1, x2⟩ := (N1.out.setall (.int .i64 0) (.int .i64 0) (.slice none 0 0)).cells
      exact bodyPost_ret (v := .tuple #[.agg #[.int .i64 0, .int .i64 0, .slice none 0 0], .bool false]) (by simp [results, Try.results82, go_sem, x0, x1, x2]) rfl ⟨below_set3 B1.out _ _ _ (Nat.le_refl _), .inl ⟨F.out, rfl⟩⟩
/-- a list of functions that tell sorts, in memory: true: a term is wanted -/
def sortV : Bool → Value
  | true => .func (.func 39) #[] #[]
  | false => .func (.func 38) #[] #[]
def SortsAt (w : World) (B : Nat) (A : Option Addr) (cs : List Bool) : Prop := ∀ j (h : j < cs.length), ∃ b o, A = some ⟨b, o, none⟩ ∧ b < B ∧ w.cell? ⟨b, o + j, none⟩ = some (sortV cs[j])
theorem isTB_right {t : Tr} (h : rightN t = 0) : isTB t = termB t.k := by
  unfold isTB
  rw [decide_eq_true h, Bool.and_true, Bool.eq_iff_iff, decide_eq_true_iff]
  exact sort_term t.k
set_option maxHeartbeats 2000000 in
set_option maxRecDepth 100000 in
theorem listFault_any (l : Tr) (A S : Option Addr) (c sc : Nat) (cs : List Bool) (w : World) (hl : IsT w w.heap.size l A c) (hn : cs.length = l.ks.length) (hS : SortsAt w w.heap.size S cs) :
    Calls Try.prog 40 #[.slice A l.ks.length c, .slice S cs.length sc] w fun e w' => e = .returned (.int .i64 (sortedN l.ks cs : Nat)) ∧ Below w.heap.size w w' := by
  have HT := Lib.hid hl
  have hl1 := hl.len
  have HN := Lib.hid hn
  have HS := Lib.hid hS
  clear hl hn hS
  go_enter Try.func40, Try.ntmps40
  go_wp2_with fail
  refine (search_any l A c _ (by exact HT.out)).mono ?_
  rintro e w1 ⟨hb1, hcase⟩
  rcases hcase with ⟨h0, rfl⟩ | ⟨q, A', c', hq, hr, hqT, rfl⟩
  · have F0 := Lib.hid h0
    have B1 := Lib.hid (hb1.trans ((alB w1 (.cells #[.int .i64 0, .int .i64 0, .slice none 0 0] 24)).mono hb1.size))
    clear hb1 h0
    go_wp2_with fail
    go_loopw [19] (fun i wx => ∃ m : Nat, m ≤ l.ks.length ∧ i = .int .i64 m ∧ (∀ j, j < m → termB (l.ks.getD j default).k = cs.getD j false) ∧ Below w.heap.size w wx) (fun i _ => l.ks.length - (intOf i).toNat)
    case atStart => exact ⟨0, Nat.zero_le _, rfl, by intro j hj; omega, B1.out⟩
    case round =>
      obtain ⟨m, hm', rfl, hall, hbr⟩ := hrel
      have AL := Lib.hid hall
      clear hall
      by_cases hlt : m < l.ks.length
      · obtain ⟨b, o, A', c', rfl, hlt', p0, p1, p2, hk⟩ := HT.out.kid m hlt
        have GA := Lib.hid (getD_at l.ks m hlt)
        have SF := Lib.hid (fun h => sortsB_false (cs := cs) hlt h)
        have hsz : m < cs.length := by rw [HN.out]; exact hlt
        obtain ⟨sb, so, rfl, hsl, s0⟩ := HS.out m hsz
        have CG := Lib.hid (show cs.getD m false = cs[m] by simp [List.getD_eq_getElem?_getD, hsz])
        have RQ := Lib.hid (show rightN l.ks[m] = 0 from firstL_zero F0.out l.ks[m] (List.getElem_mem hlt))
        obtain ⟨q, hq⟩ : ∃ q, q = l.ks[m] := ⟨_, rfl⟩
        rw [← hq] at p0 p1 p2 hk GA RQ
        rw [GA.out] at SF
        clear hq
        have e0 := (hbr.cell hlt').trans p0
        have e1 := (hbr.cell hlt').trans p1
        have e2 := (hbr.cell hlt').trans p2
        have E1 := Lib.hid (env1 (hk.keep hbr hbr.size))
        have hsr : sb < wr.heap.size := Nat.lt_of_lt_of_le hsl hbr.size
        have s1 := (hbr.cell hsl).trans s0
        have S2 := Lib.hid s1
        clear p0 p1 p2 hk s0 s1
        go_wp2_with fail
        clear e0 e1 e2
        have E2 := Lib.hid (E1.out.keep ((Below.refl _ _).drew))
        have BB : Below _ _ _ := Below.refl ((wr.alloc (.cells #[.int .i64 q.k, .int .i64 q.i, .slice A' q.ks.length c'] 24)).drew.heap.size) ((wr.alloc (.cells #[.int .i64 q.k, .int .i64 q.i, .slice A' q.ks.length c'] 24)).drew)
        have SX := Lib.hid (show ((wr.alloc (.cells #[.int .i64 q.k, .int .i64 q.i, .slice A' q.ks.length c'] 24)).drew).cell? ⟨sb, so + m, none⟩ = some (sortV cs[m]) from ((alB wr _).cell (p := ⟨sb, so + m, none⟩) hsr).trans S2.out)
        have hm0 : (0 : Int) ≤ (m : Int) := by omega
        have hm1 : (m : Int) < (cs.length : Int) := by omega
        have hsx : sb < (wr.alloc (.cells #[.int .i64 q.k, .int .i64 q.i, .slice A' q.ks.length c'] 24)).drew.heap.size := by show sb < (wr.alloc _).heap.size; simp; omega
        cases hc : cs[m] with
        | true =>
          rw [hc] at SX CG
          go_region_held3 (fun w' => w'.cell? ⟨sb, so + m, none⟩ = some (.func (.func 39) #[] #[]) ∧ (w'.cell? ⟨wr.heap.size, 0, none⟩ = some (.int .i64 q.k) ∧ w'.cell? ⟨wr.heap.size, 1, none⟩ = some (.int .i64 q.i) ∧ w'.cell? ⟨wr.heap.size, 2, none⟩ = some (.slice A' q.ks.length c')))
            (exact ⟨(BB.cell (p := ⟨sb, so + m, none⟩) hsx).trans SX.out, (E2.out.keep BB).cells wr.heap.size q A' c' (by simp)⟩)
            (first
              | (go_at_call 39; refine (isTerm_any q A' c' _ (E2.out.tree wr.heap.size q A' c' (by simp))).mono ?_; rintro e w6 ⟨rfl, hb6⟩; replace BB := BB.trans (hb6.mono BB.size); clear hb6))
          have E3 := Lib.hid (E2.out.keep BB)
          rw [isTB_right RQ.out]
          cases ht : termB q.k with
          | true =>
            have AL2 := Lib.hid (show ∀ j, j < m + 1 → termB (l.ks.getD j default).k = cs.getD j false from fun j hj => by
              rcases Nat.lt_or_ge j m with h | h
              · exact AL.out j h
              · obtain rfl : j = m := by omega
                rw [GA.out, CG.out]; exact ht)
            go_wp2_with fail
            go_roundw
            case rel => exact ⟨m + 1, by omega, by go_num, AL2.out, hbr.trans (E3.out.below.mono hbr.size)⟩
            case measure => simp [intOf]; omega
          | false =>
            have F := Lib.hid (show sortedN l.ks cs = 40 by unfold sortedN; rw [if_neg (by rw [F0.out]; simp), SF.out (by rw [CG.out, ht]; simp)]; simp)
            go_wp2_with fail
            go_ret
            exact ⟨by rw [F.out]; rfl, hbr.trans (E3.out.below.mono hbr.size)⟩
        | false =>
          rw [hc] at SX CG
          go_region_held3 (fun w' => w'.cell? ⟨sb, so + m, none⟩ = some (.func (.func 38) #[] #[]) ∧ (w'.cell? ⟨wr.heap.size, 0, none⟩ = some (.int .i64 q.k) ∧ w'.cell? ⟨wr.heap.size, 1, none⟩ = some (.int .i64 q.i) ∧ w'.cell? ⟨wr.heap.size, 2, none⟩ = some (.slice A' q.ks.length c')))
            (exact ⟨(BB.cell (p := ⟨sb, so + m, none⟩) hsx).trans SX.out, (E2.out.keep BB).cells wr.heap.size q A' c' (by simp)⟩)
            (first
              | (go_at_call 38; refine (isForm_any q A' c' _ (E2.out.tree wr.heap.size q A' c' (by simp))).mono ?_; rintro e w6 ⟨rfl, hb6⟩; replace BB := BB.trans (hb6.mono BB.size); clear hb6))
          have E3 := Lib.hid (E2.out.keep BB)
          rw [isFB_form RQ.out]
          cases ht : termB q.k with
          | false =>
            have AL2 := Lib.hid (show ∀ j, j < m + 1 → termB (l.ks.getD j default).k = cs.getD j false from fun j hj => by
              rcases Nat.lt_or_ge j m with h | h
              · exact AL.out j h
              · obtain rfl : j = m := by omega
                rw [GA.out, CG.out]; exact ht)
            go_wp2_with fail
            go_roundw
            case rel => exact ⟨m + 1, by omega, by go_num, AL2.out, hbr.trans (E3.out.below.mono hbr.size)⟩
            case measure => simp [intOf]; omega
          | true =>
            have F := Lib.hid (show sortedN l.ks cs = 40 by unfold sortedN; rw [if_neg (by rw [F0.out]; simp), SF.out (by rw [CG.out, ht]; simp)]; simp)
            go_wp2_with fail
            go_ret
            exact ⟨by rw [F.out]; rfl, hbr.trans (E3.out.below.mono hbr.size)⟩
      · obtain rfl : m = l.ks.length := by omega
        have F := Lib.hid (show sortedN l.ks cs = 0 by unfold sortedN; rw [if_neg (by rw [F0.out]; simp), if_pos (sortsB_true AL.out)])
        go_wp2_with fail
        go_ret
        exact ⟨by rw [F.out]; rfl, hbr⟩
  · have F := Lib.hid (show sortedN l.ks cs = rightN q by unfold sortedN; rw [hq, if_pos hr])
    have E1 := Lib.hid (env1 (hqT.keep hb1 hb1.size))
    obtain ⟨z0, z1, z2⟩ := E1.out.cells w1.heap.size q A' c' (by simp)
    have B1 := Lib.hid hb1
    clear hq hr hqT hb1
    go_wp2_with fail
    refine (right_any q A' c' _ (by exact E1.out.tree w1.heap.size q A' c' (by simp))).mono ?_
    rintro e w2 ⟨rfl, hb2⟩
    have E2 := Lib.hid (E1.out.keep hb2)
    clear hb2
    go_wp2_with fail
    go_ret
    exact ⟨by rw [F.out]; rfl, B1.out.trans (E2.out.below.mono B1.out.size)⟩
end Go.Proofs.Ytmmdhlemkcddmaa
