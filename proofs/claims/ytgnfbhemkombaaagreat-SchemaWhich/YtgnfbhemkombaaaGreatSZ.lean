/- G3, G4, H4, HA, HB, HC, HD, HE, H5, H6, HF, HG, HJ, one behind the other. -/
import Derived.Test.YtgnfbhemkombaaaGreatSX
import Derived.Test.YtgnfbhemkombaaaGreatH3
import Derived.Laws.EntriesVeiled
import Derived.Test.YtgnfbhemkombaaaGreatT21
import Derived.Test.YtgnfbhemkombaaaGreatE25
namespace Go.Proofs.YtgnfbhemkombaaaGreat
open Go.RowKit
set_option linter.unusedVariables false
set_option linter.unusedSimpArgs false
set_option maxHeartbeats 1000000 in
theorem sHead_any (a b : Tr) (A B : Option Addr) (ca cb : Nat) (w : World) (ha : IsT w w.heap.size a A ca) (hb : IsT w w.heap.size b B cb) :
    Calls Tryz.prog 130 #[.agg #[.int .i64 a.k, .int .i64 a.i, .slice A a.ks.length ca], .agg #[.int .i64 b.k, .int .i64 b.i, .slice B b.ks.length cb]] w fun e w' => e = .returned (.bool (headB a b)) ∧ Below w.heap.size w w' := by
  have E1 := Lib.hid (env2 ha hb)
  obtain ⟨a0, a1, a2⟩ := E1.out.cells w.heap.size a A ca (by simp)
  obtain ⟨b0, b1, b2⟩ := E1.out.cells (w.heap.size + 1) b B cb (by simp)
  clear ha hb
  by_cases hk : a.k = b.k
  · have hk' : (a.k == b.k) = true := by simp [hk]
    by_cases hi : a.i = b.i
    · have hi' : (a.i == b.i) = true := by simp [hi]
      by_cases hn : a.ks.length = b.ks.length
      · have hn' : ((a.ks.length : Int) == (b.ks.length : Int)) = true := by simp [hn]
        have HB := Lib.hid (show headB a b = true from headB_iff.2 ⟨hk, hi, hn⟩)
        clear hk hi hn
        go_enter Tryz.func130, Tryz.ntmps130
        go_wp2_with fail
        go_ret
        exact ⟨by rw [HB.out]; rfl, E1.out.below⟩
      · have hn' : ((a.ks.length : Int) == (b.ks.length : Int)) = false := by rw [beq_eq_false_iff_ne]; omega
        have HB := Lib.hid (show headB a b = false from decide_eq_false fun h => hn h.2.2)
        clear hk hi hn
        go_enter Tryz.func130, Tryz.ntmps130
        go_wp2_with fail
        go_ret
        exact ⟨by rw [HB.out]; rfl, E1.out.below⟩
    · have hi' : (a.i == b.i) = false := by rw [beq_eq_false_iff_ne]; exact hi
      have HB := Lib.hid (show headB a b = false from decide_eq_false fun h => hi h.2.1)
      clear hk hi
      go_enter Tryz.func130, Tryz.ntmps130
      go_wp2_with fail
      go_ret
      exact ⟨by rw [HB.out]; rfl, E1.out.below⟩
  · have hk' : (a.k == b.k) = false := by rw [beq_eq_false_iff_ne]; exact hk
    have HB := Lib.hid (show headB a b = false from decide_eq_false fun h => hk h.1)
    clear hk
    go_enter Tryz.func130, Tryz.ntmps130
    go_wp2_with fail
    go_ret
    exact ⟨by rw [HB.out]; rfl, E1.out.below⟩
set_option maxHeartbeats 400000 in
theorem hIsQuant_any (k i : Int) (A : Option Addr) (n c : Nat) (w : World) :
    Calls Tryz.prog 103 #[.agg #[.int .i64 k, .int .i64 i, .slice A n c]] w fun e w' => e = .returned (.bool (decide (k = 7 ∨ k = 10))) ∧ Below w.heap.size w w' := by
  have hb : Below w.heap.size w (w.alloc (.cells #[.int .i64 k, .int .i64 i, .slice A n c] 24)) := (Below.refl _ _).alloc (Nat.le_refl _) _
  by_cases h1 : k = 7
  · subst h1
    go_enter Tryz.func103, Tryz.ntmps103
    go_wp2
    go_ret
    exact ⟨rfl, hb⟩
  · have h1' : (k == 7) = false := by simpa using h1
    by_cases h2 : k = 10
    · subst h2
      go_enter Tryz.func103, Tryz.ntmps103
      go_wp2
      go_ret
      exact ⟨rfl, hb⟩
    · have h2' : (k == 10) = false := by simpa using h2
      have T := Lib.hid (show decide (k = 7 ∨ k = 10) = false by simp [h1, h2])
      go_enter Tryz.func103, Tryz.ntmps103
      go_wp2
      go_ret
      exact ⟨by rw [T.out]; rfl, hb⟩
/-! ### listFault and the search for what is not right -/
set_option maxHeartbeats 400000 in
theorem lfault1_any (t : Tr) (A : Option Addr) (c : Nat) (w : World) (ht : IsT w w.heap.size t A c) :
    Calls Tryz.prog 74 #[.agg #[.int .i64 t.k, .int .i64 t.i, .slice A t.ks.length c]] w fun e w' => e = .returned (.bool (!decide (rightN t = 0))) ∧ Below w.heap.size w w' := by
  have E1 := Lib.hid (env1 ht)
  obtain ⟨a0, a1, a2⟩ := E1.out.cells w.heap.size t A c (by simp)
  clear ht
  go_enter Tryz.func74, Tryz.ntmps74
  go_wp2_with fail
  refine (right_any t A c _ (by exact E1.out.tree w.heap.size t A c (by simp))).mono ?_
  rintro e w1 ⟨rfl, hb1⟩
  have E2 := Lib.hid (E1.out.keep hb1)
  clear hb1
  by_cases hr : rightN t = 0
  · have h1 : ((rightN t : Int) != 0) = false := by simpa using hr
    have D := Lib.hid (decide_eq_true hr)
    clear hr
    go_wp2_with fail
    go_ret
    exact ⟨by rw [D.out]; rfl, E2.out.below⟩
  · have h1 : ((rightN t : Int) != 0) = true := by rw [bne_iff_ne]; omega
    have D := Lib.hid (decide_eq_false hr)
    clear hr
    go_wp2_with fail
    go_ret
    exact ⟨by rw [D.out]; rfl, E2.out.below⟩
/-- what the search finds: the first that is not right -/
def SeaP (w : World) (l : Tr) (e : Ending) (w' : World) : Prop :=
  Below w.heap.size w w' ∧ ((firstL l.ks = 0 ∧ e = .returned (.tuple #[.agg #[.int .i64 0, .int .i64 0, .slice none 0 0], .bool false])) ∨
    ∃ q A' c', firstL l.ks = rightN q ∧ rightN q ≠ 0 ∧ IsT w w.heap.size q A' c' ∧ e = .returned (.tuple #[.agg #[.int .i64 q.k, .int .i64 q.i, .slice A' q.ks.length c'], .bool true]))
set_option maxHeartbeats 2000000 in
theorem search_any (l : Tr) (A : Option Addr) (c : Nat) (w : World) (hl : IsT w w.heap.size l A c) :
    Calls Tryz.prog 73 #[.slice A l.ks.length c, .func (.func 74) #[] #[]] w (SeaP w l) := by
  have HT := Lib.hid hl
  have hl1 := hl.len
  have N0 := Lib.hid (Box3.new w (.int .i64 0) (.int .i64 0) (.slice none 0 0))
  have B0 := Lib.hid (alB w (.cells #[.int .i64 0, .int .i64 0, .slice none 0 0] 24))
  clear hl
  go_enter Tryz.func73, Tryz.ntmps73
  go_wp2_with fail
  go_loopw [11] (fun i wr => ∃ m : Nat, m ≤ l.ks.length ∧ i = .int .i64 m ∧ firstL l.ks = firstL (l.ks.drop m) ∧ Below w.heap.size w wr ∧ Box3 wr w.heap.size (.int .i64 0) (.int .i64 0) (.slice none 0 0)) (fun i _ => l.ks.length - (intOf i).toNat)
  case atStart => exact ⟨0, Nat.zero_le _, rfl, by simp, B0.out, N0.out⟩
  case round =>
    obtain ⟨m, hm', rfl, hf, hbr, hnb⟩ := hrel
    have HF := Lib.hid hf
    have NB := Lib.hid hnb
    clear hf
    by_cases hlt : m < l.ks.length
    · obtain ⟨b, o, A', c', rfl, hlt', p0, p1, p2, hk⟩ := HT.out.kid m hlt
      have S := Lib.hid (firstL_skip l.ks m hlt HF.out)
      have Z := Lib.hid (firstL_hit l.ks m hlt HF.out)
      obtain ⟨q, hq⟩ : ∃ q, q = l.ks[m] := ⟨_, rfl⟩
      rw [← hq] at p0 p1 p2 hk S Z
      clear hq
      have e0 := (hbr.cell hlt').trans p0
      have e1 := (hbr.cell hlt').trans p1
      have e2 := (hbr.cell hlt').trans p2
      have HK := Lib.hid hk
      have E1 := Lib.hid (env1 (hk.keep hbr hbr.size))
      have hsz := hnb.lt
      have N1 := Lib.hid (hnb.keep (alB wr (.cells #[.int .i64 q.k, .int .i64 q.i, .slice A' q.ks.length c'] 24)) hsz)
      clear p0 p1 p2 hk hnb
      go_wp2_with fail
      refine (lfault1_any q A' c' _ (by exact E1.out.tree wr.heap.size q A' c' (by simp))).mono ?_
      rintro e w1 ⟨rfl, hb1⟩
      have E2 := Lib.hid (E1.out.keep hb1)
      have N2 := Lib.hid (N1.out.keep hb1 N1.out.lt)
      have B2 := Lib.hid (hbr.trans (E2.out.below.mono hbr.size))
      clear hb1 e0 e1 e2 E1 N1
      obtain ⟨z0, z1, z2⟩ := E2.out.cells wr.heap.size q A' c' (by simp)
      by_cases hr : rightN q = 0
      · have S2 := Lib.hid (S.out hr)
        rw [decide_eq_true hr]
        clear hr
        go_wp2_with fail
        go_roundw
        case rel => exact ⟨m + 1, by omega, by go_num, S2.out, B2.out, N2.out⟩
        case measure => simp [intOf]; omega
      · have HR := Lib.hid hr
        have G := Lib.hid (Z.out hr)
        rw [decide_eq_false hr]
        clear hr
        have f0 := N2.out.frozen 0
        have f1 := N2.out.frozen 1
        have f2 := N2.out.frozen 2
        obtain ⟨n0, n1, n2⟩ := N2.out.cells
        go_wp2_with fail
        obtain ⟨x0, x1, x2⟩ := (N2.out.setall (.int .i64 q.k) (.int .i64 q.i) (.slice A' q.ks.length c')).cells
        exact bodyPost_ret (v := .tuple #[.agg #[.int .i64 q.k, .int .i64 q.i, .slice A' q.ks.length c'], .bool true]) (by simp [results, Tryz.results73, go_sem, x0, x1, x2]) rfl ⟨below_set3 B2.out _ _ _ (Nat.le_refl _), .inr ⟨q, A', c', G.out, HR.out, HK.out, rfl⟩⟩
    · obtain rfl : m = l.ks.length := by omega
      have F := Lib.hid (firstL_done HF.out)
      have N1 := Lib.hid (hnb.keep (alB wr (.cells #[.int .i64 0, .int .i64 0, .slice none 0 0] 24)) hnb.lt)
      have B1 := Lib.hid (hbr.trans ((alB wr (.cells #[.int .i64 0, .int .i64 0, .slice none 0 0] 24)).mono hbr.size))
      have f0 := N1.out.frozen 0
      have f1 := N1.out.frozen 1
      have f2 := N1.out.frozen 2
      obtain ⟨n0, n1, n2⟩ := N1.out.cells
      go_wp2_with fail
      obtain ⟨x0, x1, x2⟩ := (N1.out.setall (.int .i64 0) (.int .i64 0) (.slice none 0 0)).cells
      exact bodyPost_ret (v := .tuple #[.agg #[.int .i64 0, .int .i64 0, .slice none 0 0], .bool false]) (by simp [results, Tryz.results73, go_sem, x0, x1, x2]) rfl ⟨below_set3 B1.out _ _ _ (Nat.le_refl _), .inl ⟨F.out, rfl⟩⟩
/-- a list of functions that tell sorts, in memory: true: a term is wanted -/
def sortV : Bool → Value
  | true => .func (.func 34) #[] #[]
  | false => .func (.func 33) #[] #[]
def SortsAt (w : World) (B : Nat) (A : Option Addr) (cs : List Bool) : Prop := ∀ j (h : j < cs.length), ∃ b o, A = some ⟨b, o, none⟩ ∧ b < B ∧ w.cell? ⟨b, o + j, none⟩ = some (sortV cs[j])
theorem isTB_right {t : Tr} (h : rightN t = 0) : isTB t = termB t.k := by
  unfold isTB
  rw [decide_eq_true h, Bool.and_true, Bool.eq_iff_iff, decide_eq_true_iff]
  exact sort_term t.k
set_option maxHeartbeats 2000000 in
set_option maxRecDepth 100000 in
theorem listFault_any (l : Tr) (A S : Option Addr) (c sc : Nat) (cs : List Bool) (w : World) (hl : IsT w w.heap.size l A c) (hn : cs.length = l.ks.length) (hS : SortsAt w w.heap.size S cs) :
    Calls Tryz.prog 32 #[.slice A l.ks.length c, .slice S cs.length sc] w fun e w' => e = .returned (.int .i64 (sortedN l.ks cs : Nat)) ∧ Below w.heap.size w w' := by
  have HT := Lib.hid hl
  have hl1 := hl.len
  have HN := Lib.hid hn
  have HS := Lib.hid hS
  clear hl hn hS
  go_enter Tryz.func32, Tryz.ntmps32
  go_wp2_with fail
  refine (search_any l A c _ (by exact HT.out)).mono ?_
  rintro e w1 ⟨hb1, hcase⟩
  rcases hcase with ⟨h0, rfl⟩ | ⟨q, A', c', hq, hr, hqT, rfl⟩
  · have F0 := Lib.hid h0
    have B1 := Lib.hid (hb1.trans ((alB w1 (.cells #[.int .i64 0, .int .i64 0, .slice none 0 0] 24)).mono hb1.size))
    clear hb1 h0
    go_wp2_with fail
    go_loopw [19] (fun i wx => ∃ m : Nat, m ≤ l.ks.length ∧ i = .int .i64 m ∧ (∀ j, j < m → termB (l.ks.getD j default).k = cs.getD j false) ∧ Below w.heap.size w wx) (fun i _ => l.ks.length - (intOf i).toNat)
    case atStart => exact ⟨0, Nat.zero_le _, rfl, by intro j hj; omega, B1.out⟩
    case round =>
      obtain ⟨m, hm', rfl, hall, hbr⟩ := hrel
      have AL := Lib.hid hall
      clear hall
      by_cases hlt : m < l.ks.length
      · obtain ⟨b, o, A', c', rfl, hlt', p0, p1, p2, hk⟩ := HT.out.kid m hlt
        have GA := Lib.hid (getD_at l.ks m hlt)
        have SF := Lib.hid (fun h => sortsB_false (cs := cs) hlt h)
        have hsz : m < cs.length := by rw [HN.out]; exact hlt
        obtain ⟨sb, so, rfl, hsl, s0⟩ := HS.out m hsz
        have CG := Lib.hid (show cs.getD m false = cs[m] by simp [List.getD_eq_getElem?_getD, hsz])
        have RQ := Lib.hid (show rightN l.ks[m] = 0 from firstL_zero F0.out l.ks[m] (List.getElem_mem hlt))
        obtain ⟨q, hq⟩ : ∃ q, q = l.ks[m] := ⟨_, rfl⟩
        rw [← hq] at p0 p1 p2 hk GA RQ
        rw [GA.out] at SF
        clear hq
        have e0 := (hbr.cell hlt').trans p0
        have e1 := (hbr.cell hlt').trans p1
        have e2 := (hbr.cell hlt').trans p2
        have E1 := Lib.hid (env1 (hk.keep hbr hbr.size))
        have hsr : sb < wr.heap.size := Nat.lt_of_lt_of_le hsl hbr.size
        have s1 := (hbr.cell hsl).trans s0
        have S2 := Lib.hid s1
        clear p0 p1 p2 hk s0 s1
        go_wp2_with fail
        clear e0 e1 e2
        have E2 := Lib.hid (E1.out.keep ((Below.refl _ _).drew))
        have BB : Below _ _ _ := Below.refl ((wr.alloc (.cells #[.int .i64 q.k, .int .i64 q.i, .slice A' q.ks.length c'] 24)).drew.heap.size) ((wr.alloc (.cells #[.int .i64 q.k, .int .i64 q.i, .slice A' q.ks.length c'] 24)).drew)
        have SX := Lib.hid (show ((wr.alloc (.cells #[.int .i64 q.k, .int .i64 q.i, .slice A' q.ks.length c'] 24)).drew).cell? ⟨sb, so + m, none⟩ = some (sortV cs[m]) from ((alB wr _).cell (p := ⟨sb, so + m, none⟩) hsr).trans S2.out)
        have hm0 : (0 : Int) ≤ (m : Int) := by omega
        have hm1 : (m : Int) < (cs.length : Int) := by omega
        have hsx : sb < (wr.alloc (.cells #[.int .i64 q.k, .int .i64 q.i, .slice A' q.ks.length c'] 24)).drew.heap.size := by show sb < (wr.alloc _).heap.size; simp; omega
        cases hc : cs[m] with
        | true =>
          rw [hc] at SX CG
          go_region_held3 (fun w' => w'.cell? ⟨sb, so + m, none⟩ = some (.func (.func 34) #[] #[]) ∧ (w'.cell? ⟨wr.heap.size, 0, none⟩ = some (.int .i64 q.k) ∧ w'.cell? ⟨wr.heap.size, 1, none⟩ = some (.int .i64 q.i) ∧ w'.cell? ⟨wr.heap.size, 2, none⟩ = some (.slice A' q.ks.length c')))
            (exact ⟨(BB.cell (p := ⟨sb, so + m, none⟩) hsx).trans SX.out, (E2.out.keep BB).cells wr.heap.size q A' c' (by simp)⟩)
            (first
              | (go_at_call 34; refine (isTerm_any q A' c' _ (E2.out.tree wr.heap.size q A' c' (by simp))).mono ?_; rintro e w6 ⟨rfl, hb6⟩; replace BB := BB.trans (hb6.mono BB.size); clear hb6))
          have E3 := Lib.hid (E2.out.keep BB)
          rw [isTB_right RQ.out]
          cases ht : termB q.k with
          | true =>
            have AL2 := Lib.hid (show ∀ j, j < m + 1 → termB (l.ks.getD j default).k = cs.getD j false from fun j hj => by
              rcases Nat.lt_or_ge j m with h | h
              · exact AL.out j h
              · obtain rfl : j = m := by omega
                rw [GA.out, CG.out]; exact ht)
            go_wp2_with fail
            go_roundw
            case rel => exact ⟨m + 1, by omega, by go_num, AL2.out, hbr.trans (E3.out.below.mono hbr.size)⟩
            case measure => simp [intOf]; omega
          | false =>
            have F := Lib.hid (show sortedN l.ks cs = 40 by unfold sortedN; rw [if_neg (by rw [F0.out]; simp), SF.out (by rw [CG.out, ht]; simp)]; simp)
            go_wp2_with fail
            go_ret
            exact ⟨by rw [F.out]; rfl, hbr.trans (E3.out.below.mono hbr.size)⟩
        | false =>
          rw [hc] at SX CG
          go_region_held3 (fun w' => w'.cell? ⟨sb, so + m, none⟩ = some (.func (.func 33) #[] #[]) ∧ (w'.cell? ⟨wr.heap.size, 0, none⟩ = some (.int .i64 q.k) ∧ w'.cell? ⟨wr.heap.size, 1, none⟩ = some (.int .i64 q.i) ∧ w'.cell? ⟨wr.heap.size, 2, none⟩ = some (.slice A' q.ks.length c')))
            (exact ⟨(BB.cell (p := ⟨sb, so + m, none⟩) hsx).trans SX.out, (E2.out.keep BB).cells wr.heap.size q A' c' (by simp)⟩)
            (first
              | (go_at_call 33; refine (isForm_any q A' c' _ (E2.out.tree wr.heap.size q A' c' (by simp))).mono ?_; rintro e w6 ⟨rfl, hb6⟩; replace BB := BB.trans (hb6.mono BB.size); clear hb6))
          have E3 := Lib.hid (E2.out.keep BB)
          rw [isFB_form RQ.out]
          cases ht : termB q.k with
          | false =>
            have AL2 := Lib.hid (show ∀ j, j < m + 1 → termB (l.ks.getD j default).k = cs.getD j false from fun j hj => by
              rcases Nat.lt_or_ge j m with h | h
              · exact AL.out j h
              · obtain rfl : j = m := by omega
                rw [GA.out, CG.out]; exact ht)
            go_wp2_with fail
            go_roundw
            case rel => exact ⟨m + 1, by omega, by go_num, AL2.out, hbr.trans (E3.out.below.mono hbr.size)⟩
            case measure => simp [intOf]; omega
          | true =>
            have F := Lib.hid (show sortedN l.ks cs = 40 by unfold sortedN; rw [if_neg (by rw [F0.out]; simp), SF.out (by rw [CG.out, ht]; simp)]; simp)
            go_wp2_with fail
            go_ret
            exact ⟨by rw [F.out]; rfl, hbr.trans (E3.out.below.mono hbr.size)⟩
      · obtain rfl : m = l.ks.length := by omega
        have F := Lib.hid (show sortedN l.ks cs = 0 by unfold sortedN; rw [if_neg (by rw [F0.out]; simp), if_pos (sortsB_true AL.out)])
        go_wp2_with fail
        go_ret
        exact ⟨by rw [F.out]; rfl, hbr⟩
  · have F := Lib.hid (show sortedN l.ks cs = rightN q by unfold sortedN; rw [hq, if_pos hr])
    have E1 := Lib.hid (env1 (hqT.keep hb1 hb1.size))
    obtain ⟨z0, z1, z2⟩ := E1.out.cells w1.heap.size q A' c' (by simp)
    have B1 := Lib.hid hb1
    clear hq hr hqT hb1
    go_wp2_with fail
    refine (right_any q A' c' _ (by exact E1.out.tree w1.heap.size q A' c' (by simp))).mono ?_
    rintro e w2 ⟨rfl, hb2⟩
    have E2 := Lib.hid (E1.out.keep hb2)
    clear hb2
    go_wp2_with fail
    go_ret
    exact ⟨by rw [F.out]; rfl, B1.out.trans (E2.out.below.mono B1.out.size)⟩
end Go.Proofs.YtgnfbhemkombaaaGreat
namespace Go.Proofs.YtgnfbhemkombaaaGreat
open Go.RowKit
set_option linter.unusedVariables false
set_option linter.unusedSimpArgs false
theorem same_right {a b : Tr} (ha : rightN a = 0) (hb : rightN b = 0) : sameB a b = decide (cmpT a b = 0) := by
  unfold sameB firstN
  rw [if_neg (by simp [ha]), decide_eq_true hb, Bool.true_and]
theorem swpL_no {t u : Tr} {own : Nat} {a b : Tr} (h : headB a b = true) : swpL t u own a.ks b.ks false = decide (cmpT a b = 0) := by
  have := swp_no t u own a b
  rw [swpT_eq] at this
  simpa [h] using this
/-- a swap in a box, two trees in boxes, two more beside -/
structure SW (w W : World) (a b t u : Tr) (own : Nat) (A B T U : Option Addr) (ca cb ct cu : Nat) : Prop where
  env : Env w W [(w.heap.size + 2, b, B, cb), (w.heap.size + 1, a, A, ca)]
  sw : W.heap[w.heap.size]? = some (.cells #[.int .i64 t.k, .int .i64 t.i, .slice T t.ks.length ct, .int .i64 u.k, .int .i64 u.i, .slice U u.ks.length cu, .int .u64 (own : Int)] 112 (0, 0))
  tt : IsT W W.heap.size t T ct
  tu : IsT W W.heap.size u U cu
theorem SW.keep {w W W' : World} {a b t u : Tr} {own : Nat} {A B T U : Option Addr} {ca cb ct cu : Nat} (h : SW w W a b t u own A B T U ca cb ct cu) (hb : Below W.heap.size W W') : SW w W' a b t u own A B T U ca cb ct cu :=
  ⟨h.env.keep hb, (hb.block _ (Array.getElem?_eq_some_iff.1 h.sw).1).trans h.sw, h.tt.keep hb hb.size, h.tu.keep hb hb.size⟩
theorem SW.cells {w W : World} {a b t u : Tr} {own : Nat} {A B T U : Option Addr} {ca cb ct cu : Nat} (h : SW w W a b t u own A B T U ca cb ct cu) :
    (W.cell? ⟨w.heap.size, 0, none⟩ = some (.int .i64 t.k) ∧ W.cell? ⟨w.heap.size, 1, none⟩ = some (.int .i64 t.i) ∧ W.cell? ⟨w.heap.size, 2, none⟩ = some (.slice T t.ks.length ct)) ∧
    (W.cell? ⟨w.heap.size, 3, none⟩ = some (.int .i64 u.k) ∧ W.cell? ⟨w.heap.size, 4, none⟩ = some (.int .i64 u.i) ∧ W.cell? ⟨w.heap.size, 5, none⟩ = some (.slice U u.ks.length cu)) ∧ W.cell? ⟨w.heap.size, 6, none⟩ = some (.int .u64 (own : Int)) := by
  have := h.sw
  simp [World.cell?, this]
theorem SW.start {w : World} {a b t u : Tr} (own : Nat) {A B T U : Option Addr} {ca cb ct cu : Nat} (ha : IsT w w.heap.size a A ca) (hb : IsT w w.heap.size b B cb) (ht : IsT w w.heap.size t T ct) (hu : IsT w w.heap.size u U cu) :
    SW w (((w.alloc (.cells #[.int .i64 t.k, .int .i64 t.i, .slice T t.ks.length ct, .int .i64 u.k, .int .i64 u.i, .slice U u.ks.length cu, .int .u64 (own : Int)] 112)).alloc (.cells #[.int .i64 a.k, .int .i64 a.i, .slice A a.ks.length ca] 24)).alloc (.cells #[.int .i64 b.k, .int .i64 b.i, .slice B b.ks.length cb] 24)) a b t u own A B T U ca cb ct cu := by
  have h0 := alB w (.cells #[.int .i64 t.k, .int .i64 t.i, .slice T t.ks.length ct, .int .i64 u.k, .int .i64 u.i, .slice U u.ks.length cu, .int .u64 (own : Int)] 112)
  have E1 := (((Env.start w).alloc (.cells #[.int .i64 t.k, .int .i64 t.i, .slice T t.ks.length ct, .int .i64 u.k, .int .i64 u.i, .slice U u.ks.length cu, .int .u64 (own : Int)] 112)).push (ha.keep h0 h0.size)).push ((hb.keep h0 h0.size).keep (alB _ _) (alB _ _).size)
  rw [World.size_alloc, World.size_alloc] at E1
  refine ⟨E1, ?_, ((ht.keep h0 h0.size).keep (alB _ _) (alB _ _).size).keep (alB _ _) (alB _ _).size, ((hu.keep h0 h0.size).keep (alB _ _) (alB _ _).size).keep (alB _ _) (alB _ _).size⟩
  exact ((alB _ _).block _ (by simp; omega)).trans (((alB _ _).block _ (by simp)).trans (new_at w _))
set_option maxHeartbeats 4000000 in
set_option maxRecDepth 100000 in
theorem leads_any (t u : Tr) (own : Nat) (hU : U64 own) (rt : rightN t = 0) (ru : rightN u = 0) : ∀ (N : Nat) (a b : Tr) (A B T U : Option Addr) (ca cb ct cu : Nat) (w : World), a.sz ≤ N → rightN a = 0 → rightN b = 0 → IsT w w.heap.size a A ca → IsT w w.heap.size b B cb → IsT w w.heap.size t T ct → IsT w w.heap.size u U cu →
    Calls Tryz.prog 110 #[.agg #[.int .i64 t.k, .int .i64 t.i, .slice T t.ks.length ct, .int .i64 u.k, .int .i64 u.i, .slice U u.ks.length cu, .int .u64 (own : Int)], .agg #[.int .i64 a.k, .int .i64 a.i, .slice A a.ks.length ca], .agg #[.int .i64 b.k, .int .i64 b.i, .slice B b.ks.length cb]] w fun e w' => e = .returned (.bool (swpT t u own a b true)) ∧ Below w.heap.size w w' := by
  intro N
  induction N with
  | zero => intro a b A B T U ca cb ct cu w h; have := sz_pos a; omega
  | succ N ih =>
    intro a b A B T U ca cb ct cu w hN ra rb ha hb ht hu
    have IH := Lib.hid ih
    have UU := Lib.hid hU
    have S0 := Lib.hid (SW.start own ha hb ht hu)
    have SE := Lib.hid (show swpT t u own a b true = (turnB a b t u || (headB a b && swpL t u own a.ks b.ks (!namesB own a))) by rw [swpT_eq]; simp)
    have HH := Lib.hid (show headB a b = true → a.k = b.k ∧ a.i = b.i ∧ a.ks.length = b.ks.length from headB_iff.1)
    have TB := Lib.hid (show turnB a b t u = (sameB a t && sameB b u) by rw [same_right ra rt, same_right rb ru]; rfl)
    have TZ := Lib.hid (show headB a t = false → turnB a b t u = false from fun h => by
      cases e : turnB a b t u with
      | false => rfl
      | true => rw [(turnB_iff.1 e).1, headB_iff.2 ⟨rfl, rfl, rfl⟩] at h; cases h)
    have SB := Lib.hid (same_right ra rb)
    have QI := Lib.hid (show a.k = 7 ∨ a.k = 10 → 0 ≤ a.i ∧ a.i ≤ 63 from fun h => by obtain ⟨_, _, hi⟩ := shp_quant (right_shp' ra).1 h; exact hi)
    have RA := Lib.hid (fun q (hq : q ∈ a.ks) => right_kid ra hq)
    have RB := Lib.hid (fun q (hq : q ∈ b.ks) => right_kid rb hq)
    have hl := ha.len
    have hl2 := hb.len
    clear ih ha hb ht hu ra rb rt ru hU
    go_enter Tryz.func110, Tryz.ntmps110
    go_upto_region 1 with fail
    go_cut [23] (fun v wc => v = .bool (turnB a b t u) ∧ SW w wc a b t u own A B T U ca cb ct cu)
    case first =>
      obtain ⟨⟨s0, s1, s2⟩, ⟨s3, s4, s5⟩, s6⟩ := S0.out.cells
      obtain ⟨a0, a1, a2⟩ := S0.out.env.cells (w.heap.size + 1) a A ca (by simp)
      go_wp2_with fail
      refine (sHead_any a t A T ca ct _ (by exact S0.out.env.tree (w.heap.size + 1) a A ca (by simp)) (by exact S0.out.tt)).mono ?_
      rintro e w1 ⟨rfl, hb1⟩
      have S1 := Lib.hid (S0.out.keep hb1)
      clear hb1 s0 s1 s2 s3 s4 s5 s6 a0 a1 a2 S0
      cases h0 : headB a t with
      | false =>
        have TF := Lib.hid (TZ.out h0)
        clear h0
        go_wp2_with fail
        go_meet
        exact ⟨by rw [TF.out], S1.out⟩
      | true =>
        clear h0
        obtain ⟨⟨s0, s1, s2⟩, ⟨s3, s4, s5⟩, s6⟩ := S1.out.cells
        obtain ⟨a0, a1, a2⟩ := S1.out.env.cells (w.heap.size + 1) a A ca (by simp)
        go_wp2_with fail
        refine (same_any a t A T ca ct _ (by exact S1.out.env.tree (w.heap.size + 1) a A ca (by simp)) (by exact S1.out.tt)).mono ?_
        rintro e w2 ⟨rfl, hb2⟩
        have S2 := Lib.hid (S1.out.keep hb2)
        clear hb2 s0 s1 s2 s3 s4 s5 s6 a0 a1 a2 S1
        cases h1 : sameB a t with
        | false =>
          rw [h1] at TB
          clear h1
          go_wp2_with fail
          go_meet
          exact ⟨by rw [TB.out]; rfl, S2.out⟩
        | true =>
          rw [h1] at TB
          clear h1
          obtain ⟨⟨s0, s1, s2⟩, ⟨s3, s4, s5⟩, s6⟩ := S2.out.cells
          obtain ⟨b0, b1, b2⟩ := S2.out.env.cells (w.heap.size + 2) b B cb (by simp)
          go_wp2_with fail
          refine (same_any b u B U cb cu _ (by exact S2.out.env.tree (w.heap.size + 2) b B cb (by simp)) (by exact S2.out.tu)).mono ?_
          rintro e w3 ⟨rfl, hb3⟩
          have S3 := Lib.hid (S2.out.keep hb3)
          clear hb3 s0 s1 s2 s3 s4 s5 s6 b0 b1 b2 S2
          go_wp2_with fail
          go_meet
          exact ⟨by rw [TB.out]; simp, S3.out⟩
    case rest =>
      obtain ⟨rfl, hE⟩ := hcut
      have S1 := Lib.hid hE
      clear hE S0 TZ TB
      cases h1 : turnB a b t u with
      | true =>
        rw [h1] at SE
        clear h1
        go_wp2_with fail
        go_ret
        exact ⟨by rw [SE.out]; rfl, S1.out.env.below⟩
      | false =>
        rw [h1, Bool.false_or] at SE
        clear h1
        obtain ⟨a0, a1, a2⟩ := S1.out.env.cells (w.heap.size + 1) a A ca (by simp)
        obtain ⟨b0, b1, b2⟩ := S1.out.env.cells (w.heap.size + 2) b B cb (by simp)
        go_wp2_with fail
        refine (sHead_any a b A B ca cb _ (by exact S1.out.env.tree (w.heap.size + 1) a A ca (by simp)) (by exact S1.out.env.tree (w.heap.size + 2) b B cb (by simp))).mono ?_
        rintro e w2 ⟨rfl, hb2⟩
        have S2 := Lib.hid (S1.out.keep hb2)
        clear hb2 a0 a1 a2 b0 b1 b2 S1
        cases h1 : headB a b with
        | false =>
          rw [h1] at SE
          clear h1
          go_wp2_with fail
          go_ret
          exact ⟨by rw [SE.out]; rfl, S2.out.env.below⟩
        | true =>
          rw [h1, Bool.true_and] at SE
          have HN := Lib.hid (HH.out h1).2.2
          have NO := Lib.hid (swpL_no (t := t) (u := u) (own := own) h1)
          clear h1 HH
          go_upto_region 5 with fail
          go_cut [38] (fun v wc => v = .bool (namesB own a) ∧ SW w wc a b t u own A B T U ca cb ct cu)
          case first =>
            obtain ⟨a0, a1, a2⟩ := S2.out.env.cells (w.heap.size + 1) a A ca (by simp)
            go_wp2_with fail
            refine (hIsQuant_any a.k a.i A a.ks.length ca _).mono ?_
            rintro e w3 ⟨rfl, hb3⟩
            have S3 := Lib.hid (S2.out.keep hb3)
            clear hb3 a0 a1 a2 S2
            have NB := Lib.hid (show namesB own a = (decide (a.k = 7 ∨ a.k = 10) && hasN own a.i) from rfl)
            by_cases hq : a.k = 7 ∨ a.k = 10
            · have HB := Lib.hid (show (bits .and .u64 ((own : Int) / 2 ^ a.i.toNat) 1 == 1) = hasN own a.i by rw [has_walk own a.i UU.out, hasN_in own a.i (QI.out hq).1 (QI.out hq).2])
              obtain ⟨i0, i1⟩ := QI.out hq
              rw [decide_eq_true hq] at NB ⊢
              clear hq
              obtain ⟨a0, a1, a2⟩ := S3.out.env.cells (w.heap.size + 1) a A ca (by simp)
              obtain ⟨_, _, s6⟩ := S3.out.cells
              go_wp2_with fail
              go_meet
              exact ⟨by rw [NB.out, HB.out]; rfl, S3.out⟩
            · rw [decide_eq_false hq] at NB ⊢
              clear hq
              go_wp2_with fail
              go_meet
              exact ⟨by rw [NB.out]; rfl, S3.out⟩
          case rest =>
            obtain ⟨rfl, hE⟩ := hcut
            have S3 := Lib.hid hE
            clear hE S2 QI
            cases h1 : namesB own a with
            | true =>
              rw [h1] at SE
              clear h1
              obtain ⟨a0, a1, a2⟩ := S3.out.env.cells (w.heap.size + 1) a A ca (by simp)
              obtain ⟨b0, b1, b2⟩ := S3.out.env.cells (w.heap.size + 2) b B cb (by simp)
              go_wp2_with fail
              refine (same_any a b A B ca cb _ (by exact S3.out.env.tree (w.heap.size + 1) a A ca (by simp)) (by exact S3.out.env.tree (w.heap.size + 2) b B cb (by simp))).mono ?_
              rintro e w4 ⟨rfl, hb4⟩
              have S4 := Lib.hid (S3.out.keep hb4)
              clear hb4 a0 a1 a2 b0 b1 b2 S3
              go_wp2_with fail
              go_ret
              exact ⟨by rw [SE.out, Bool.not_true, NO.out, ← SB.out]; rfl, S4.out.env.below⟩
            | false =>
              rw [h1, Bool.not_false] at SE
              clear h1 NO SB
              obtain ⟨a0, a1, a2⟩ := S3.out.env.cells (w.heap.size + 1) a A ca (by simp)
              go_wp2_with fail
              clear a0 a1 a2
              go_loopw [45] (fun i wr => ∃ m : Nat, m ≤ a.ks.length ∧ i = .int .i64 m ∧ swpL t u own (a.ks.take m) (b.ks.take m) true = true ∧ SW w wr a b t u own A B T U ca cb ct cu) (fun i _ => a.ks.length - (intOf i).toNat)
              case atStart => exact ⟨0, Nat.zero_le _, rfl, by simp [swpL_nil], S3.out⟩
              case round =>
                obtain ⟨m, hm', rfl, hal, hE⟩ := hrel
                have AL := Lib.hid hal
                have S5 := Lib.hid hE
                clear hal hE S3
                by_cases hlt : m < a.ks.length
                · have hltb : m < b.ks.length := by rw [← HN.out]; exact hlt
                  have TK := Lib.hid (swpL_take t u own true a.ks b.ks m hlt hltb)
                  have FF := Lib.hid (swpL_false t u own true a.ks b.ks m hlt hltb)
                  have RQ := Lib.hid (RA.out a.ks[m] (List.getElem_mem hlt))
                  have RP := Lib.hid (RB.out b.ks[m] (List.getElem_mem hltb))
                  have kz := kid_sz a m hlt
                  obtain ⟨ba, oa, Aa, ka, eA, hla, p0, p1, p2, hka⟩ := (S5.out.env.tree (w.heap.size + 1) a A ca (by simp)).kid m hlt
                  obtain ⟨bb, ob, Ab, kb, eB, hlb, q0, q1, q2, hkb⟩ := (S5.out.env.tree (w.heap.size + 2) b B cb (by simp)).kid m hltb
                  obtain ⟨qa, hqa⟩ : ∃ qa, qa = a.ks[m] := ⟨_, rfl⟩
                  obtain ⟨qb, hqb⟩ : ∃ qb, qb = b.ks[m] := ⟨_, rfl⟩
                  rw [← hqa] at p0 p1 p2 hka TK FF kz RQ
                  rw [← hqb] at q0 q1 q2 hkb TK FF RP
                  subst eA eB
                  have KA := Lib.hid hka
                  have KB := Lib.hid hkb
                  have x2 := (S5.out.env.cells (w.heap.size + 1) a (some ⟨ba, oa, none⟩) ca (by simp)).2.2
                  have y2 := (S5.out.env.cells (w.heap.size + 2) b (some ⟨bb, ob, none⟩) cb (by simp)).2.2
                  obtain ⟨⟨s0, s1, s2⟩, ⟨s3, s4, s5⟩, s6⟩ := S5.out.cells
                  have hw0 : w.heap.size < wr.heap.size := block_lt_of_cell s0
                  have BB : Below wr.drew.heap.size wr.drew wr.drew := Below.refl _ _
                  have SS := Lib.hid (fun (W : World) (h : Below wr.drew.heap.size wr.drew W) => And.intro (And.intro ((h.cell (block_lt_of_cell x2)).trans x2) ((h.cell (block_lt_of_cell y2)).trans y2)) (And.intro (And.intro ((h.cell hla).trans p0) (And.intro ((h.cell hla).trans p1) ((h.cell hla).trans p2))) (And.intro (And.intro ((h.cell hlb).trans q0) (And.intro ((h.cell hlb).trans q1) ((h.cell hlb).trans q2))) (And.intro (And.intro ((h.cell (block_lt_of_cell s0)).trans s0) (And.intro ((h.cell (block_lt_of_cell s1)).trans s1) ((h.cell (block_lt_of_cell s2)).trans s2))) (And.intro (And.intro ((h.cell (block_lt_of_cell s3)).trans s3) (And.intro ((h.cell (block_lt_of_cell s4)).trans s4) ((h.cell (block_lt_of_cell s5)).trans s5))) ((h.cell (block_lt_of_cell s6)).trans s6))))))
                  have hm0 : (0 : Int) ≤ (m : Int) := by omega
                  have hm1 : (m : Int) < (a.ks.length : Int) := by omega
                  have hm2 : (m : Int) < (b.ks.length : Int) := by omega
                  clear hqa hqb hka hkb p0 p1 p2 q0 q1 q2 x2 y2 s0 s1 s2 s3 s4 s5 s6
                  go_wp2_with fail
                  go_region_held3 (fun w' => (w'.cell? ⟨w.heap.size + 1, 2, none⟩ = some (.slice (some ⟨ba, oa, none⟩) a.ks.length ca) ∧ w'.cell? ⟨w.heap.size + 2, 2, none⟩ = some (.slice (some ⟨bb, ob, none⟩) b.ks.length cb)) ∧ ((w'.cell? ⟨ba, oa + m * 3, none⟩ = some (.int .i64 qa.k) ∧ w'.cell? ⟨ba, oa + m * 3 + 1, none⟩ = some (.int .i64 qa.i) ∧ w'.cell? ⟨ba, oa + m * 3 + 2, none⟩ = some (.slice Aa qa.ks.length ka)) ∧ ((w'.cell? ⟨bb, ob + m * 3, none⟩ = some (.int .i64 qb.k) ∧ w'.cell? ⟨bb, ob + m * 3 + 1, none⟩ = some (.int .i64 qb.i) ∧ w'.cell? ⟨bb, ob + m * 3 + 2, none⟩ = some (.slice Ab qb.ks.length kb)) ∧ ((w'.cell? ⟨w.heap.size, 0, none⟩ = some (.int .i64 t.k) ∧ w'.cell? ⟨w.heap.size, 1, none⟩ = some (.int .i64 t.i) ∧ w'.cell? ⟨w.heap.size, 2, none⟩ = some (.slice T t.ks.length ct)) ∧ ((w'.cell? ⟨w.heap.size, 3, none⟩ = some (.int .i64 u.k) ∧ w'.cell? ⟨w.heap.size, 4, none⟩ = some (.int .i64 u.i) ∧ w'.cell? ⟨w.heap.size, 5, none⟩ = some (.slice U u.ks.length cu)) ∧ w'.cell? ⟨w.heap.size, 6, none⟩ = some (.int .u64 (own : Int)))))))
                    (exact SS.out _ BB)
                    (first
                      | (go_at_call 110; refine (IH.out qa qb Aa Ab T U ka kb ct cu _ (by omega) RQ.out RP.out (KA.out.keep ((Below.refl _ _).drew) (Nat.le_refl _)) (KB.out.keep ((Below.refl _ _).drew) (Nat.le_refl _)) (S5.out.keep ((Below.refl _ _).drew)).tt (S5.out.keep ((Below.refl _ _).drew)).tu).mono ?_; rintro e w6 ⟨rfl, hb6⟩; replace BB := BB.trans (hb6.mono BB.size); clear hb6))
                  all_goals
                    have S6 := Lib.hid ((S5.out.keep ((Below.refl _ _).drew)).keep BB)
                    rw [AL.out, Bool.true_and] at TK
                    cases hr : swpT t u own qa qb true with
                    | true =>
                      rw [hr] at TK
                      go_wp2_with fail
                      go_roundw
                      case rel => exact ⟨m + 1, by omega, by go_num, TK.out, S6.out⟩
                      case measure => simp [intOf]; omega
                    | false =>
                      have F := Lib.hid (FF.out hr)
                      go_wp2_with fail
                      go_ret
                      exact ⟨by rw [SE.out, F.out]; rfl, S6.out.env.below⟩
                · obtain rfl : m = a.ks.length := by omega
                  have F := Lib.hid (show swpL t u own a.ks b.ks true = true by have := AL.out; rw [List.take_length, HN.out, List.take_length] at this; exact this)
                  go_wp2_with fail
                  go_ret
                  exact ⟨by rw [SE.out, F.out]; rfl, S5.out.env.below⟩
set_option maxHeartbeats 2000000 in
theorem swapped_any (a b t u : Tr) (A B T U : Option Addr) (ca cb ct cu : Nat) (w : World) (ra : rightN a = 0) (rb : rightN b = 0) (rt : rightN t = 0) (ru : rightN u = 0) (ha : IsT w w.heap.size a A ca) (hb : IsT w w.heap.size b B cb) (ht : IsT w w.heap.size t T ct) (hu : IsT w w.heap.size u U cu) :
    Calls Tryz.prog 87 #[.agg #[.int .i64 a.k, .int .i64 a.i, .slice A a.ks.length ca], .agg #[.int .i64 b.k, .int .i64 b.i, .slice B b.ks.length cb], .agg #[.int .i64 t.k, .int .i64 t.i, .slice T t.ks.length ct], .agg #[.int .i64 u.k, .int .i64 u.i, .slice U u.ks.length cu]] w fun e w' => e = .returned (.bool (swpT t u (varsT t ||| varsT u) a b true)) ∧ Below w.heap.size w w' := by
  have E0 := Lib.hid (env4 ha hb ht hu)
  have R := Lib.hid (And.intro (And.intro ra rb) (And.intro rt ru))
  have VT := Lib.hid (show valR varsT t = varsT t by unfold valR; rw [if_pos rt])
  have VU := Lib.hid (show valR varsT u = varsT u by unfold valR; rw [if_pos ru])
  have OR := Lib.hid (or_walk64 (varsT t) (varsT u) (varsT_U t) (varsT_U u))
  obtain ⟨t0, t1, t2⟩ := E0.out.cells (w.heap.size + 2) t T ct (by simp)
  clear ra rb rt ru ha hb ht hu
  go_enter Tryz.func87, Tryz.ntmps87
  go_wp2_with fail
  refine (vars_any t T ct _ (by exact E0.out.tree (w.heap.size + 2) t T ct (by simp))).mono ?_
  rintro e w1 ⟨rfl, hb1⟩
  have E1 := Lib.hid (E0.out.keep hb1)
  clear hb1 t0 t1 t2 E0
  rw [VT.out]
  obtain ⟨t0, t1, t2⟩ := E1.out.cells (w.heap.size + 3) u U cu (by simp)
  go_wp2_with fail
  refine (vars_any u U cu _ (by exact E1.out.tree (w.heap.size + 3) u U cu (by simp))).mono ?_
  rintro e w2 ⟨rfl, hb2⟩
  have E2 := Lib.hid (E1.out.keep hb2)
  clear hb2 t0 t1 t2 E1
  rw [VU.out]
  obtain ⟨u0, u1, u2⟩ := E2.out.cells (w.heap.size + 3) u U cu (by simp)
  obtain ⟨t0, t1, t2⟩ := E2.out.cells (w.heap.size + 2) t T ct (by simp)
  obtain ⟨b0, b1, b2⟩ := E2.out.cells (w.heap.size + 1) b B cb (by simp)
  obtain ⟨a0, a1, a2⟩ := E2.out.cells w.heap.size a A ca (by simp)
  have UU := Lib.hid (show U64 (varsT t ||| varsT u) from Nat.or_lt_two_pow (varsT_U t) (varsT_U u))
  go_wp2_with fail
  rw [OR.out]
  refine (leads_any t u (varsT t ||| varsT u) UU.out R.out.2.1 R.out.2.2 a.sz a b A B T U ca cb ct cu _ (Nat.le_refl _) R.out.1.1 R.out.1.2 (by exact E2.out.tree w.heap.size a A ca (by simp)) (by exact E2.out.tree (w.heap.size + 1) b B cb (by simp)) (by exact E2.out.tree (w.heap.size + 2) t T ct (by simp)) (by exact E2.out.tree (w.heap.size + 3) u U cu (by simp))).mono ?_
  rintro e w3 ⟨rfl, hb3⟩
  have E3 := Lib.hid (E2.out.keep hb3)
  clear hb3
  go_wp2_with fail
  go_ret
  exact ⟨rfl, E3.out.below⟩
end Go.Proofs.YtgnfbhemkombaaaGreat
namespace Go.Proofs.YtgnfbhemkombaaaGreat
open Go.RowKit
set_option linter.unusedVariables false
set_option linter.unusedSimpArgs false
set_option maxHeartbeats 1000000 in
theorem always_any (A : Option Addr) (n c : Nat) (x : Int) (w : World) :
    Calls Tryz.prog 36 #[.agg #[.slice A n c, .int .i64 x]] w fun e w' => e = .returned (.bool true) ∧ Below w.heap.size w w' := by
  have b := Lib.hid (alB w (.cells #[.slice A n c, .int .i64 x] 32))
  go_enter Tryz.func36, Tryz.ntmps36
  go_wp2_with fail
  go_ret
  exact ⟨rfl, b.out⟩
/-- the parts, boxed -/
structure PB (w W : World) (A : Option Addr) (n c : Nat) (x : Int) : Prop where
  pb : BoxP W w.heap.size A n c x
  bel : Below w.heap.size w W
theorem PB.keep {w W W' : World} {A : Option Addr} {n c : Nat} {x : Int} (h : PB w W A n c x) (hb : Below W.heap.size W W') : PB w W' A n c x := ⟨h.pb.keep hb h.pb.lt, h.bel.trans (hb.mono h.bel.size)⟩
theorem PB.start (w : World) (A : Option Addr) (n c : Nat) (x : Int) : PB w (w.alloc (.cells #[.slice A n c, .int .i64 x] 32)) A n c x := ⟨BoxP.new w A n c x, alB w _⟩
theorem IsT.up {w W : World} {t : Tr} {A : Option Addr} {c : Nat} (h : IsT w w.heap.size t A c) (hb : Below w.heap.size w W) : IsT W W.heap.size t A c := IsT.keep hb hb.size t h
set_option maxHeartbeats 2000000 in
set_option maxRecDepth 100000 in
theorem side4_any (a t : Tr) (A : Option Addr) (c : Nat) (x : Int) (w : World) (hl : IsT w w.heap.size (.node 0 0 [a, t]) A c) :
    Calls Tryz.prog 41 #[.agg #[.slice A 2 c, .int .i64 x]] w fun e w' => e = .returned (.bool (ffB x t a)) ∧ Below w.heap.size w w' := by
  obtain ⟨g, o, Aa, ca, At, ct, rfl, hg, ⟨ha, ht⟩, ⟨ta, tt⟩, hcn⟩ := kids2 hl
  have E := Lib.hid ((PB.start w (some ⟨g, o, none⟩) 2 c x).keep (Below.refl _ _).drew)
  have Ha := Lib.hid ha
  have Ht := Lib.hid ht
  have Ta := Lib.hid ta
  have Tt := Lib.hid tt
  clear hl ha ht ta tt
  go_enter Tryz.func41, Tryz.ntmps41
  go_wp2_with fail
  go_region_held3 (fun w' => (w'.cell? ⟨w.heap.size, 0, none⟩ = some (.slice (some ⟨g, o, none⟩) 2 c) ∧ w'.cell? ⟨w.heap.size, 1, none⟩ = some (.int .i64 x)) ∧ ((w'.cell? ⟨g, o, none⟩ = some (.int .i64 a.k) ∧ w'.cell? ⟨g, o + 1, none⟩ = some (.int .i64 a.i) ∧ w'.cell? ⟨g, o + 2, none⟩ = some (.slice Aa a.ks.length ca)) ∧ (w'.cell? ⟨g, o + 3, none⟩ = some (.int .i64 t.k) ∧ w'.cell? ⟨g, o + 3 + 1, none⟩ = some (.int .i64 t.i) ∧ w'.cell? ⟨g, o + 3 + 2, none⟩ = some (.slice At t.ks.length ct))))
    (exact ⟨E.out.pb.cells, Ha.out.keep E.out.bel hg, Ht.out.keep E.out.bel hg⟩)
    (first
      | (go_at_call 83; refine (freeFor_any t a x At Aa ct ca _ (Tt.out.up E.out.bel) (Ta.out.up E.out.bel)).mono ?_; rintro e5 w5 ⟨rfl, hb5⟩; replace E := Lib.hid (E.out.keep hb5); clear hb5))
  all_goals go_wp2_with fail
  all_goals
    go_ret
    exact ⟨rfl, E.out.bel⟩
set_option maxHeartbeats 2000000 in
set_option maxRecDepth 100000 in
theorem side5_any (a b : Tr) (A : Option Addr) (c : Nat) (x : Int) (w : World) (hl : IsT w w.heap.size (.node 0 0 [a, b]) A c) :
    Calls Tryz.prog 44 #[.agg #[.slice A 2 c, .int .i64 x]] w fun e w' => e = .returned (.bool (nfB x a)) ∧ Below w.heap.size w w' := by
  obtain ⟨g, o, Aa, ca, Ab, cb, rfl, hg, ⟨ha, hb⟩, ⟨ta, tb⟩, hcn⟩ := kids2 hl
  have E := Lib.hid ((PB.start w (some ⟨g, o, none⟩) 2 c x).keep (Below.refl _ _).drew)
  have Ha := Lib.hid ha
  have Ta := Lib.hid ta
  clear hl ha hb ta tb
  go_enter Tryz.func44, Tryz.ntmps44
  go_wp2_with fail
  go_region_held3 (fun w' => (w'.cell? ⟨w.heap.size, 0, none⟩ = some (.slice (some ⟨g, o, none⟩) 2 c) ∧ w'.cell? ⟨w.heap.size, 1, none⟩ = some (.int .i64 x)) ∧ (w'.cell? ⟨g, o, none⟩ = some (.int .i64 a.k) ∧ w'.cell? ⟨g, o + 1, none⟩ = some (.int .i64 a.i) ∧ w'.cell? ⟨g, o + 2, none⟩ = some (.slice Aa a.ks.length ca)))
    (exact ⟨E.out.pb.cells, Ha.out.keep E.out.bel hg⟩)
    (first
      | (go_at_call 85; refine (notFree_any x a Aa ca _ (Ta.out.up E.out.bel)).mono ?_; rintro e5 w5 ⟨rfl, hb5⟩; replace E := Lib.hid (E.out.keep hb5); clear hb5))
  all_goals go_wp2_with fail
  all_goals
    go_ret
    exact ⟨rfl, E.out.bel⟩
set_option maxHeartbeats 4000000 in
set_option maxRecDepth 100000 in
theorem side7_any (a b d e : Tr) (A : Option Addr) (c : Nat) (x : Int) (w : World) (ra : rightN a = 0) (rb : rightN b = 0) (rd : rightN d = 0) (re : rightN e = 0) (hl : IsT w w.heap.size (.node 0 0 [a, b, d, e]) A c) :
    Calls Tryz.prog 48 #[.agg #[.slice A 4 c, .int .i64 x]] w fun q w' => q = .returned (.bool (swpT a b (varsT a ||| varsT b) d e true)) ∧ Below w.heap.size w w' := by
  obtain ⟨g, o, Aa, ca, Ab, cb, Ad, cd, Ae, ce, rfl, hg, ⟨ha, hb, hd, he⟩, ⟨ta, tb, td, te⟩, hcn⟩ := kids4 hl
  have E := Lib.hid ((PB.start w (some ⟨g, o, none⟩) 4 c x).keep (Below.refl _ _).drew)
  have Ha := Lib.hid ha
  have Hb := Lib.hid hb
  have Hd := Lib.hid hd
  have He := Lib.hid he
  have Ta := Lib.hid ta
  have Tb := Lib.hid tb
  have Td := Lib.hid td
  have Te := Lib.hid te
  have RR := Lib.hid (And.intro (And.intro ra rb) (And.intro rd re))
  clear hl ha hb hd he ta tb td te ra rb rd re
  go_enter Tryz.func48, Tryz.ntmps48
  go_wp2_with fail
  go_region_held3 (fun w' => w'.cell? ⟨w.heap.size, 0, none⟩ = some (.slice (some ⟨g, o, none⟩) 4 c) ∧ ((w'.cell? ⟨g, o, none⟩ = some (.int .i64 a.k) ∧ w'.cell? ⟨g, o + 1, none⟩ = some (.int .i64 a.i) ∧ w'.cell? ⟨g, o + 2, none⟩ = some (.slice Aa a.ks.length ca)) ∧ ((w'.cell? ⟨g, o + 3, none⟩ = some (.int .i64 b.k) ∧ w'.cell? ⟨g, o + 3 + 1, none⟩ = some (.int .i64 b.i) ∧ w'.cell? ⟨g, o + 3 + 2, none⟩ = some (.slice Ab b.ks.length cb)) ∧ ((w'.cell? ⟨g, o + 6, none⟩ = some (.int .i64 d.k) ∧ w'.cell? ⟨g, o + 6 + 1, none⟩ = some (.int .i64 d.i) ∧ w'.cell? ⟨g, o + 6 + 2, none⟩ = some (.slice Ad d.ks.length cd)) ∧ (w'.cell? ⟨g, o + 9, none⟩ = some (.int .i64 e.k) ∧ w'.cell? ⟨g, o + 9 + 1, none⟩ = some (.int .i64 e.i) ∧ w'.cell? ⟨g, o + 9 + 2, none⟩ = some (.slice Ae e.ks.length ce))))))
    (exact ⟨E.out.pb.cells.1, Ha.out.keep E.out.bel hg, Hb.out.keep E.out.bel hg, Hd.out.keep E.out.bel hg, He.out.keep E.out.bel hg⟩)
    (first
      | (go_at_call 87; refine (swapped_any d e a b Ad Ae Aa Ab cd ce ca cb _ RR.out.2.1 RR.out.2.2 RR.out.1.1 RR.out.1.2 (Td.out.up E.out.bel) (Te.out.up E.out.bel) (Ta.out.up E.out.bel) (Tb.out.up E.out.bel)).mono ?_; rintro e5 w5 ⟨rfl, hb5⟩; replace E := Lib.hid (E.out.keep hb5); clear hb5))
  all_goals go_wp2_with fail
  all_goals
    go_ret
    exact ⟨rfl, E.out.bel⟩
end Go.Proofs.YtgnfbhemkombaaaGreat
namespace Go.Proofs.YtgnfbhemkombaaaGreat
open Go.RowKit
set_option linter.unusedVariables false
set_option linter.unusedSimpArgs false
/-- the sorts of schema k, as the document writes them -/
def sortsS (k : Nat) : ByteArray :=
  if k = 2 then ⟨#[102, 102, 102]⟩ else if k = 4 then ⟨#[102, 116]⟩ else if k = 6 then ⟨#[116]⟩ else if k = 7 then ⟨#[116, 116, 102, 102]⟩ else ⟨#[102, 102]⟩
/-- true: a term -/
def sortsL (k : Nat) : List Bool :=
  if k = 2 then [false, false, false] else if k = 4 then [false, true] else if k = 6 then [true] else if k = 7 then [true, true, false, false] else [false, false]
set_option maxHeartbeats 1000000 in
set_option maxRecDepth 100000 in
theorem rsorts_any (k : Nat) (h1 : 1 ≤ k) (h7 : k ≤ 7) (w : World) :
    Calls Tryz.prog 21 #[.int .i64 (k : Int)] w fun e w' => e = .returned (.string (sortsS k)) ∧ w = w' := by
  have hk : k = 1 ∨ k = 2 ∨ k = 3 ∨ k = 4 ∨ k = 5 ∨ k = 6 ∨ k = 7 := by omega
  rcases hk with rfl | rfl | rfl | rfl | rfl | rfl | rfl
  all_goals
    go_enter Tryz.func21, Tryz.ntmps21
    go_wp2_with fail
    go_ret
    exact ⟨rfl, rfl⟩
set_option maxHeartbeats 1000000 in
theorem rhasvar_any (k : Nat) (w : World) :
    Calls Tryz.prog 22 #[.int .i64 (k : Int)] w fun e w' => e = .returned (.bool (decide (k = 4 ∨ k = 5))) ∧ w = w' := by
  have h4 : ((k : Int) == 4) = decide (k = 4) := by
    by_cases h : k = 4
    · subst h; rfl
    · rw [decide_eq_false h]; simp; omega
  have h5 : ((k : Int) == 5) = decide (k = 5) := by
    by_cases h : k = 5
    · subst h; rfl
    · rw [decide_eq_false h]; simp; omega
  by_cases e4 : k = 4
  · subst e4
    go_enter Tryz.func22, Tryz.ntmps22
    go_wp2_with fail
    go_ret
    exact ⟨rfl, rfl⟩
  · by_cases e5 : k = 5
    · subst e5
      go_enter Tryz.func22, Tryz.ntmps22
      go_wp2_with fail
      go_ret
      exact ⟨rfl, rfl⟩
    · have q4 : ((k : Int) == 4) = false := by rw [h4]; exact decide_eq_false e4
      have q5 : ((k : Int) == 5) = false := by rw [h5]; exact decide_eq_false e5
      go_enter Tryz.func22, Tryz.ntmps22
      go_wp2_with fail
      go_ret
      exact ⟨by simp [e4, e5], rfl⟩
set_option maxHeartbeats 1000000 in
theorem rsideT_any (k : Nat) (hk : k = 1 ∨ k = 2 ∨ k = 3 ∨ k = 6) (A : Option Addr) (n c : Nat) (x : Int) (w : World) :
    Calls Tryz.prog 24 #[.int .i64 (k : Int), .slice A n c, .int .i64 x] w fun e w' => e = .returned (.bool true) ∧ w = w' := by
  rcases hk with rfl | rfl | rfl | rfl
  all_goals
    go_enter Tryz.func24, Tryz.ntmps24
    go_wp2_with fail
    go_ret
    exact ⟨rfl, rfl⟩
set_option maxHeartbeats 2000000 in
set_option maxRecDepth 100000 in
theorem rside4_any (a t : Tr) (A : Option Addr) (c : Nat) (x : Int) (w : World) (hl : IsT w w.heap.size (.node 0 0 [a, t]) A c) :
    Calls Tryz.prog 24 #[.int .i64 4, .slice A 2 c, .int .i64 x] w fun e w' => e = .returned (.bool (ffB x t a)) ∧ Below w.heap.size w w' := by
  obtain ⟨g, o, Aa, ca, At, ct, rfl, hg, ⟨ha, ht⟩, ⟨ta, tt⟩, hcn⟩ := kids2 hl
  have E := Lib.hid ((Below.refl w.heap.size w).trans (Below.refl w.heap.size w).drew)
  have Ha := Lib.hid ha
  have Ht := Lib.hid ht
  have Ta := Lib.hid ta
  have Tt := Lib.hid tt
  clear hl ha ht ta tt
  go_enter Tryz.func24, Tryz.ntmps24
  go_wp2_with fail
  go_region_held3 (fun w' => (w'.cell? ⟨g, o, none⟩ = some (.int .i64 a.k) ∧ w'.cell? ⟨g, o + 1, none⟩ = some (.int .i64 a.i) ∧ w'.cell? ⟨g, o + 2, none⟩ = some (.slice Aa a.ks.length ca)) ∧ (w'.cell? ⟨g, o + 3, none⟩ = some (.int .i64 t.k) ∧ w'.cell? ⟨g, o + 3 + 1, none⟩ = some (.int .i64 t.i) ∧ w'.cell? ⟨g, o + 3 + 2, none⟩ = some (.slice At t.ks.length ct)))
    (exact ⟨Ha.out.keep E.out hg, Ht.out.keep E.out hg⟩)
    (first
      | (go_at_call 51; refine (rfreefor_any t a x At Aa ct ca _ (Tt.out.up E.out) (Ta.out.up E.out)).mono ?_; rintro e5 w5 ⟨rfl, hb5⟩; replace E := Lib.hid (E.out.trans (hb5.mono E.out.size)); clear hb5))
  all_goals go_wp2_with fail
  all_goals
    go_ret
    exact ⟨rfl, E.out⟩
set_option maxHeartbeats 2000000 in
set_option maxRecDepth 100000 in
theorem rside5_any (a b : Tr) (A : Option Addr) (c : Nat) (x : Int) (w : World) (hl : IsT w w.heap.size (.node 0 0 [a, b]) A c) :
    Calls Tryz.prog 24 #[.int .i64 5, .slice A 2 c, .int .i64 x] w fun e w' => e = .returned (.bool (!hasN (freeT a) x)) ∧ Below w.heap.size w w' := by
  obtain ⟨g, o, Aa, ca, Ab, cb, rfl, hg, ⟨ha, hb⟩, ⟨ta, tb⟩, hcn⟩ := kids2 hl
  have E := Lib.hid (Below.refl w.heap.size w)
  have Ha := Lib.hid ha
  have Ta := Lib.hid ta
  obtain ⟨e0, e1, e2⟩ := ha
  clear hl hb ta tb
  go_enter Tryz.func24, Tryz.ntmps24
  go_wp2_with fail
  refine (risfree_any x a Aa ca _ (Ta.out.up E.out)).mono ?_
  rintro e5 w5 ⟨rfl, hb5⟩
  go_wp2_with fail
  go_ret
  exact ⟨rfl, hb5⟩
set_option maxHeartbeats 4000000 in
set_option maxRecDepth 100000 in
theorem rside7_any (a b d e : Tr) (A : Option Addr) (c : Nat) (x : Int) (w : World) (hl : IsT w w.heap.size (.node 0 0 [a, b, d, e]) A c) :
    Calls Tryz.prog 24 #[.int .i64 7, .slice A 4 c, .int .i64 x] w fun q w' => q = .returned (.bool (swpT a b (varsT a ||| varsT b) d e true)) ∧ Below w.heap.size w w' := by
  obtain ⟨g, o, Aa, ca, Ab, cb, Ad, cd, Ae, ce, rfl, hg, ⟨ha, hb, hd, he⟩, ⟨ta, tb, td, te⟩, hcn⟩ := kids4 hl
  have E := Lib.hid ((Below.refl w.heap.size w).trans (Below.refl w.heap.size w).drew)
  have Ha := Lib.hid ha
  have Hb := Lib.hid hb
  have Hd := Lib.hid hd
  have He := Lib.hid he
  have Ta := Lib.hid ta
  have Tb := Lib.hid tb
  have Td := Lib.hid td
  have Te := Lib.hid te
  have U1 := Lib.hid (varsT_U a)
  have U2 := Lib.hid (varsT_U b)
  have UU := Lib.hid (show U64 (varsT a ||| varsT b) from Nat.or_lt_two_pow (varsT_U a) (varsT_U b))
  clear hl ha hb hd he ta tb td te
  go_enter Tryz.func24, Tryz.ntmps24
  go_wp2_with fail
  go_region_held3 (fun w' => ((w'.cell? ⟨g, o, none⟩ = some (.int .i64 a.k) ∧ w'.cell? ⟨g, o + 1, none⟩ = some (.int .i64 a.i) ∧ w'.cell? ⟨g, o + 2, none⟩ = some (.slice Aa a.ks.length ca)) ∧ (w'.cell? ⟨g, o + 3, none⟩ = some (.int .i64 b.k) ∧ w'.cell? ⟨g, o + 3 + 1, none⟩ = some (.int .i64 b.i) ∧ w'.cell? ⟨g, o + 3 + 2, none⟩ = some (.slice Ab b.ks.length cb))))
    (exact ⟨Ha.out.keep E.out hg, Hb.out.keep E.out hg⟩)
    (first
      | (go_at_call 54; refine (rofvars_any a Aa ca _ (Ta.out.up E.out)).mono ?_; rintro e5 w5 ⟨rfl, hb5⟩; replace E := Lib.hid (E.out.trans (hb5.mono E.out.size)); clear hb5)
      | (go_at_call 54; refine (rofvars_any b Ab cb _ (Tb.out.up E.out)).mono ?_; rintro e5 w5 ⟨rfl, hb5⟩; replace E := Lib.hid (E.out.trans (hb5.mono E.out.size)); clear hb5)
      | (go_at_call 53; refine (runion_any (varsT a) (varsT b) _ U1.out U2.out).mono ?_; rintro e5 w5 ⟨rfl, hw5⟩; rw [← hw5]; clear hw5))
  all_goals go_wp2_with fail
  all_goals
    replace E := Lib.hid (E.out.trans (Below.refl _ _).drew)
    go_region_held3 (fun w' => ((w'.cell? ⟨g, o, none⟩ = some (.int .i64 a.k) ∧ w'.cell? ⟨g, o + 1, none⟩ = some (.int .i64 a.i) ∧ w'.cell? ⟨g, o + 2, none⟩ = some (.slice Aa a.ks.length ca)) ∧ ((w'.cell? ⟨g, o + 3, none⟩ = some (.int .i64 b.k) ∧ w'.cell? ⟨g, o + 3 + 1, none⟩ = some (.int .i64 b.i) ∧ w'.cell? ⟨g, o + 3 + 2, none⟩ = some (.slice Ab b.ks.length cb)) ∧ ((w'.cell? ⟨g, o + 6, none⟩ = some (.int .i64 d.k) ∧ w'.cell? ⟨g, o + 6 + 1, none⟩ = some (.int .i64 d.i) ∧ w'.cell? ⟨g, o + 6 + 2, none⟩ = some (.slice Ad d.ks.length cd)) ∧ (w'.cell? ⟨g, o + 9, none⟩ = some (.int .i64 e.k) ∧ w'.cell? ⟨g, o + 9 + 1, none⟩ = some (.int .i64 e.i) ∧ w'.cell? ⟨g, o + 9 + 2, none⟩ = some (.slice Ae e.ks.length ce))))))
      (exact ⟨Ha.out.keep E.out hg, Hb.out.keep E.out hg, Hd.out.keep E.out hg, He.out.keep E.out hg⟩)
      (first
        | (go_at_call 55; refine (rswap_any a b (varsT a ||| varsT b) UU.out d.sz d e Ad Ae Aa Ab cd ce ca cb true _ (Nat.le_refl _) (Td.out.up E.out) (Te.out.up E.out) (Ta.out.up E.out) (Tb.out.up E.out)).mono ?_; rintro e5 w5 ⟨rfl, hb5⟩; replace E := Lib.hid (E.out.trans (hb5.mono E.out.size)); clear hb5))
  all_goals go_wp2_with fail
  all_goals
    go_ret
    exact ⟨rfl, E.out⟩
end Go.Proofs.YtgnfbhemkombaaaGreat
namespace Go.Proofs.YtgnfbhemkombaaaGreat
open Go.RowKit
set_option linter.unusedVariables false
set_option linter.unusedSimpArgs false
set_option maxHeartbeats 1000000 in
theorem partsAt_any (A : Option Addr) (n c : Nat) (w : World) :
    Calls Tryz.prog 37 #[.slice A n c] w fun e w' => (∃ b, e = .returned (.func (.func 77) #[] #[.pointer (some ⟨b, 0, none⟩)]) ∧ w.heap.size ≤ b ∧ b < w'.heap.size ∧ w'.cell? ⟨b, 0, none⟩ = some (.slice A n c)) ∧ Below w.heap.size w w' := by
  have b := Lib.hid (alB w (.cells #[.slice A n c] 89))
  go_enter Tryz.func37, Tryz.ntmps37
  go_wp2_with fail
  go_ret
  exact ⟨⟨w.heap.size, rfl, Nat.le_refl _, by simp, by unfold World.cell?; rw [new_at w _]; rfl⟩, b.out⟩
theorem bl_trans {W W' W'' : World} (h : Below W.heap.size W W') (h' : Below W'.heap.size W' W'') : Below W.heap.size W W'' := h.trans (h'.mono h.size)
theorem cell_new (W : World) (cs : Array Value) (T : TypeId) (j : Nat) : (W.alloc (.cells cs T)).cell? ⟨W.heap.size, j, none⟩ = cs[j]? := by
  unfold World.cell?
  rw [show (W.alloc (.cells cs T)).heap[W.heap.size]? = some (.cells cs T) from new_at W _]
  rfl
theorem sorts_kept {w W' : World} {T : TypeId} {g : Nat} (cs : List Bool) (hg : g = w.heap.size) (h : Below (w.alloc (.cells (cs.map sortV).toArray T)).heap.size (w.alloc (.cells (cs.map sortV).toArray T)) W') :
    SortsAt W' W'.heap.size (some ⟨g, 0, none⟩) cs := by
  subst hg
  intro j hj
  have hz : w.heap.size < (w.alloc (.cells (cs.map sortV).toArray T)).heap.size := by simp
  refine ⟨w.heap.size, 0, rfl, Nat.lt_of_lt_of_le hz h.size, ?_⟩
  rw [h.cell hz, cell_new]
  simp [hj]
theorem sorts_keep {w w' : World} {B B' : Nat} {A : Option Addr} {cs : List Bool} (h : SortsAt w B A cs) (hb : Below B w w') (hB : B ≤ B') : SortsAt w' B' A cs := fun j hj => by
  obtain ⟨b, o, e, hlt, hc⟩ := h j hj
  exact ⟨b, o, e, by omega, (hb.cell hlt).trans hc⟩
/-- where the parts of schema k stand -/
def pathsL (k : Nat) : List (List Int) :=
  if k = 1 then [[0], [1, 0]] else if k = 2 then [[0, 0], [0, 1, 0], [0, 1, 1]] else if k = 3 then [[1, 1], [1, 0]] else if k = 4 then [[0, 0], [1]] else
  if k = 5 then [[0, 0, 0], [0, 0, 1]] else if k = 6 then [[0]] else [[0, 0], [0, 1], [1, 0], [1, 1]]
/-- block r holds the numbers of a path -/
def PathAt (w : World) (r : Nat) (p : List Int) : Prop := ∀ i (h : i < p.length), w.cell? ⟨r, i, none⟩ = some (.int .i64 p[i])
/-- box p leads to paths, all of it in blocks from lo on, below B -/
def PathsBox (w : World) (lo B p : Nat) (ps : List (List Int)) : Prop :=
  lo ≤ p ∧ p < B ∧ ∃ q, lo ≤ q ∧ q < B ∧ w.cell? ⟨p, 0, none⟩ = some (.slice (some ⟨q, 0, none⟩) ps.length ps.length) ∧
    ∀ j (h : j < ps.length), ∃ r, lo ≤ r ∧ r < B ∧ w.cell? ⟨q, j, none⟩ = some (.slice (some ⟨r, 0, none⟩) ps[j].length ps[j].length) ∧ PathAt w r ps[j]
theorem cell_same {w w' : World} {b i : Nat} (h : w'.heap[b]? = w.heap[b]?) : w'.cell? ⟨b, i, none⟩ = w.cell? ⟨b, i, none⟩ := by unfold World.cell?; rw [h]
theorem PathsBox.move {w w' : World} {lo B B' p : Nat} {ps : List (List Int)} (h : PathsBox w lo B p ps) (hw : ∀ b, lo ≤ b → b < B → w'.heap[b]? = w.heap[b]?) (hB : B ≤ B') : PathsBox w' lo B' p ps := by
  obtain ⟨h1, h2, q, h3, h4, h5, h6⟩ := h
  refine ⟨h1, by omega, q, h3, by omega, (cell_same (hw p h1 h2)).trans h5, fun j hj => ?_⟩
  obtain ⟨r, g1, g2, g3, g4⟩ := h6 j hj
  exact ⟨r, g1, by omega, (cell_same (hw q h3 h4)).trans g3, fun i hi => (cell_same (hw r g1 g2)).trans (g4 i hi)⟩
theorem PathsBox.keep {w w' : World} {lo B B' p : Nat} {ps : List (List Int)} (h : PathsBox w lo B p ps) (hb : Below B w w') (hB : B ≤ B') : PathsBox w' lo B' p ps := h.move (fun b _ hb' => hb.block b hb') hB
theorem PathsBox.lo {w : World} {lo lo' B p : Nat} {ps : List (List Int)} (h : PathsBox w lo B p ps) (hl : lo' ≤ lo) : PathsBox w lo' B p ps := by
  obtain ⟨h1, h2, q, h3, h4, h5, h6⟩ := h
  refine ⟨by omega, h2, q, by omega, h4, h5, fun j hj => ?_⟩
  obtain ⟨r, g1, g2, g3, g4⟩ := h6 j hj
  exact ⟨r, by omega, g2, g3, g4⟩
theorem path_kept {w W' : World} {T : TypeId} {g : Nat} (p : List Int) (hg : g = w.heap.size) (h : Below (w.alloc (.cells (p.map (Value.int .i64)).toArray T)).heap.size (w.alloc (.cells (p.map (Value.int .i64)).toArray T)) W') : PathAt W' g p := by
  subst hg
  intro i hi
  have hz : w.heap.size < (w.alloc (.cells (p.map (Value.int .i64)).toArray T)).heap.size := by simp
  rw [h.cell hz, cell_new]
  simp [hi]
/-- a row of paths -/
def rowV (rs : List (Nat × Nat)) : List Value := rs.map fun r => .slice (some ⟨r.1, 0, none⟩) r.2 r.2
theorem row_kept {w W' : World} {T : TypeId} {g : Nat} (rs : List (Nat × Nat)) (hg : g = w.heap.size) (h : Below (w.alloc (.cells (rowV rs).toArray T)).heap.size (w.alloc (.cells (rowV rs).toArray T)) W') :
    ∀ j (hj : j < rs.length), W'.cell? ⟨g, j, none⟩ = some (.slice (some ⟨rs[j].1, 0, none⟩) rs[j].2 rs[j].2) := by
  subst hg
  intro j hj
  have hz : w.heap.size < (w.alloc (.cells (rowV rs).toArray T)).heap.size := by simp
  rw [h.cell hz, cell_new]
  simp [rowV, hj]
theorem paths_of {w : World} {lo p q : Nat} {ps : List (List Int)} (rs : List (Nat × Nat)) (h1 : lo ≤ p) (h2 : p < w.heap.size) (h3 : lo ≤ q) (h4 : q < w.heap.size) (n : Nat) (hn : n = ps.length) (hc : w.cell? ⟨p, 0, none⟩ = some (.slice (some ⟨q, 0, none⟩) n n))
    (hr : ∀ j (hj : j < rs.length), w.cell? ⟨q, j, none⟩ = some (.slice (some ⟨rs[j].1, 0, none⟩) rs[j].2 rs[j].2)) (hl : rs.length = ps.length)
    (hp : ∀ j (hj : j < ps.length), lo ≤ (rs[j]'(by omega)).1 ∧ (rs[j]'(by omega)).1 < w.heap.size ∧ (rs[j]'(by omega)).2 = ps[j].length ∧ PathAt w (rs[j]'(by omega)).1 ps[j]) : PathsBox w lo w.heap.size p ps := by
  subst hn
  refine ⟨h1, h2, q, h3, h4, hc, fun j hj => ?_⟩
  obtain ⟨g1, g2, g3, g4⟩ := hp j hj
  exact ⟨_, g1, g2, by rw [hr j (by omega), g3], g4⟩
/-- how schema k takes a formula apart: the function's number, what it has caught -/
def SplitAt (w : World) (lo B k vf : Nat) (vc : Array Value) : Prop :=
  (k = 4 ∧ vf = 42 ∧ vc = #[]) ∨ (k = 5 ∧ vf = 45 ∧ vc = #[]) ∨
  (k ≠ 4 ∧ k ≠ 5 ∧ vf = 77 ∧ ∃ p, vc = #[.pointer (some ⟨p, 0, none⟩)] ∧ PathsBox w lo B p (pathsL k))
theorem SplitAt.move {w w' : World} {lo B B' k vf : Nat} {vc : Array Value} (h : SplitAt w lo B k vf vc) (hw : ∀ b, lo ≤ b → b < B → w'.heap[b]? = w.heap[b]?) (hB : B ≤ B') : SplitAt w' lo B' k vf vc := by
  rcases h with h | h | ⟨h1, h2, h3, p, h4, h5⟩
  · exact .inl h
  · exact .inr (.inl h)
  · exact .inr (.inr ⟨h1, h2, h3, p, h4, h5.move hw hB⟩)
theorem SplitAt.keep {w w' : World} {lo B B' k vf : Nat} {vc : Array Value} (h : SplitAt w lo B k vf vc) (hb : Below B w w') (hB : B ≤ B') : SplitAt w' lo B' k vf vc := h.move (fun b _ hb' => hb.block b hb') hB
def fillF (k : Nat) : Nat :=
  if k = 1 then 35 else if k = 2 then 38 else if k = 3 then 39 else if k = 4 then 40 else if k = 5 then 43 else if k = 6 then 46 else 47
def sideF (k : Nat) : Nat := if k = 4 then 41 else if k = 5 then 44 else if k = 7 then 48 else 36
/-- a row of the table in memory -/
def RowK (w : World) (lo B b o : Nat) (k : Nat) : Prop := ∃ S vf vc, (SortsAt w B S (sortsL k) ∧ SplitAt w lo B k vf vc) ∧ w.cell? ⟨b, o, none⟩ = some (.int .i64 (k : Int)) ∧ w.cell? ⟨b, o + 1, none⟩ = some (.slice S (sortsL k).length (sortsL k).length) ∧ w.cell? ⟨b, o + 2, none⟩ = some (.bool (decide (k = 4 ∨ k = 5))) ∧
  w.cell? ⟨b, o + 3, none⟩ = some (.func (.func (fillF k)) #[] #[]) ∧ w.cell? ⟨b, o + 4, none⟩ = some (.func (.func (sideF k)) #[] #[]) ∧ w.cell? ⟨b, o + 5, none⟩ = some (.func (.func vf) #[] vc)
set_option maxHeartbeats 8000000 in
set_option maxRecDepth 100000 in
theorem schemas_any (w : World) :
    Calls Tryz.prog 17 #[] w fun e w' => Below w.heap.size w w' ∧ ∃ b, b < w'.heap.size ∧ w.heap.size ≤ b ∧ e = .returned (.slice (some ⟨b, 0, none⟩) 7 7) ∧ ∀ k, 1 ≤ k → k ≤ 7 → RowK w' w.heap.size w'.heap.size b (6 * (k - 1)) k := by
  go_enter Tryz.func17, Tryz.ntmps17
  go_wp2_with fail
  refine (partsAt_any _ _ _ _).mono ?_
  rintro e w1 ⟨⟨p1, rfl, hl1, hp1, hc1⟩, hb1⟩
  have S1 := Lib.hid (show SortsAt w1 w1.heap.size (some ⟨w.heap.size, 0, none⟩) [false, false] from sorts_kept [false, false] rfl (bl_trans (bl_trans (bl_trans (alB _ _) (alB _ _)) (alB _ _)) hb1))
  have B1 := Lib.hid (show Below w.heap.size w w1 from bl_trans (bl_trans (bl_trans (bl_trans (alB _ _) (alB _ _)) (alB _ _)) (alB _ _)) hb1)
  have A10 := Lib.hid (show PathAt w1 (w.heap.size + 1) [0] from path_kept [0] (by simp) (bl_trans (bl_trans (alB _ _) (alB _ _)) hb1))
  have A11 := Lib.hid (show PathAt w1 (w.heap.size + 1 + 1) [1, 0] from path_kept [1, 0] (by simp) (bl_trans (alB _ _) hb1))
  have O1 := Lib.hid (row_kept (W' := w1) (g := w.heap.size + 1 + 1 + 1) [(w.heap.size + 1, 1), (w.heap.size + 1 + 1, 2)] (by simp) hb1)
  have Z1 := Lib.hid (show w.heap.size + 1 + 1 + 1 < w1.heap.size from by have := hb1.size; simp at this; omega)
  have P1 := Lib.hid (show PathsBox w1 w.heap.size w1.heap.size p1 (pathsL 1) from paths_of (q := w.heap.size + 1 + 1 + 1) [(w.heap.size + 1, 1), (w.heap.size + 1 + 1, 2)] (by simp at hl1; omega) hp1 (by omega) Z1.out 2 rfl hc1 O1.out rfl (fun j hj => by
    have := Z1.out
    match j, hj with
    | 0, _ => exact ⟨by show w.heap.size ≤ w.heap.size + 1; omega, by show w.heap.size + 1 < _; omega, rfl, A10.out⟩
    | 1, _ => exact ⟨by show w.heap.size ≤ w.heap.size + 1 + 1; omega, by show w.heap.size + 1 + 1 < _; omega, rfl, A11.out⟩))
  clear A10 A11 O1 Z1
  clear hb1 hl1 hp1 hc1
  go_wp2_with fail
  refine (partsAt_any _ _ _ _).mono ?_
  rintro e w2 ⟨⟨p2, rfl, hl2, hp2, hc2⟩, hb2⟩
  have S2 := Lib.hid (show SortsAt w2 w2.heap.size (some ⟨w1.heap.size, 0, none⟩) [false, false, false] from sorts_kept [false, false, false] rfl (bl_trans (bl_trans (bl_trans (bl_trans (alB _ _) (alB _ _)) (alB _ _)) (alB _ _)) hb2))
  have B2 := Lib.hid (show Below w1.heap.size w1 w2 from bl_trans (bl_trans (bl_trans (bl_trans (bl_trans (alB _ _) (alB _ _)) (alB _ _)) (alB _ _)) (alB _ _)) hb2)
  have A20 := Lib.hid (show PathAt w2 (w1.heap.size + 1) [0, 0] from path_kept [0, 0] (by simp) (bl_trans (bl_trans (bl_trans (alB _ _) (alB _ _)) (alB _ _)) hb2))
  have A21 := Lib.hid (show PathAt w2 (w1.heap.size + 1 + 1) [0, 1, 0] from path_kept [0, 1, 0] (by simp) (bl_trans (bl_trans (alB _ _) (alB _ _)) hb2))
  have A22 := Lib.hid (show PathAt w2 (w1.heap.size + 1 + 1 + 1) [0, 1, 1] from path_kept [0, 1, 1] (by simp) (bl_trans (alB _ _) hb2))
  have O2 := Lib.hid (row_kept (W' := w2) (g := w1.heap.size + 1 + 1 + 1 + 1) [(w1.heap.size + 1, 2), (w1.heap.size + 1 + 1, 3), (w1.heap.size + 1 + 1 + 1, 3)] (by simp) hb2)
  have Z2 := Lib.hid (show w1.heap.size + 1 + 1 + 1 + 1 < w2.heap.size from by have := hb2.size; simp at this; omega)
  have P2 := Lib.hid (show PathsBox w2 w1.heap.size w2.heap.size p2 (pathsL 2) from paths_of (q := w1.heap.size + 1 + 1 + 1 + 1) [(w1.heap.size + 1, 2), (w1.heap.size + 1 + 1, 3), (w1.heap.size + 1 + 1 + 1, 3)] (by simp at hl2; omega) hp2 (by omega) Z2.out 3 rfl hc2 O2.out rfl (fun j hj => by
    have := Z2.out
    match j, hj with
    | 0, _ => exact ⟨by show w1.heap.size ≤ w1.heap.size + 1; omega, by show w1.heap.size + 1 < _; omega, rfl, A20.out⟩
    | 1, _ => exact ⟨by show w1.heap.size ≤ w1.heap.size + 1 + 1; omega, by show w1.heap.size + 1 + 1 < _; omega, rfl, A21.out⟩
    | 2, _ => exact ⟨by show w1.heap.size ≤ w1.heap.size + 1 + 1 + 1; omega, by show w1.heap.size + 1 + 1 + 1 < _; omega, rfl, A22.out⟩))
  clear A20 A21 A22 O2 Z2
  clear hb2 hl2 hp2 hc2
  go_wp2_with fail
  refine (partsAt_any _ _ _ _).mono ?_
  rintro e w3 ⟨⟨p3, rfl, hl3, hp3, hc3⟩, hb3⟩
  have S3 := Lib.hid (show SortsAt w3 w3.heap.size (some ⟨w2.heap.size, 0, none⟩) [false, false] from sorts_kept [false, false] rfl (bl_trans (bl_trans (bl_trans (alB _ _) (alB _ _)) (alB _ _)) hb3))
  have B3 := Lib.hid (show Below w2.heap.size w2 w3 from bl_trans (bl_trans (bl_trans (bl_trans (alB _ _) (alB _ _)) (alB _ _)) (alB _ _)) hb3)
  have A30 := Lib.hid (show PathAt w3 (w2.heap.size + 1) [1, 1] from path_kept [1, 1] (by simp) (bl_trans (bl_trans (alB _ _) (alB _ _)) hb3))
  have A31 := Lib.hid (show PathAt w3 (w2.heap.size + 1 + 1) [1, 0] from path_kept [1, 0] (by simp) (bl_trans (alB _ _) hb3))
  have O3 := Lib.hid (row_kept (W' := w3) (g := w2.heap.size + 1 + 1 + 1) [(w2.heap.size + 1, 2), (w2.heap.size + 1 + 1, 2)] (by simp) hb3)
  have Z3 := Lib.hid (show w2.heap.size + 1 + 1 + 1 < w3.heap.size from by have := hb3.size; simp at this; omega)
  have P3 := Lib.hid (show PathsBox w3 w2.heap.size w3.heap.size p3 (pathsL 3) from paths_of (q := w2.heap.size + 1 + 1 + 1) [(w2.heap.size + 1, 2), (w2.heap.size + 1 + 1, 2)] (by simp at hl3; omega) hp3 (by omega) Z3.out 2 rfl hc3 O3.out rfl (fun j hj => by
    have := Z3.out
    match j, hj with
    | 0, _ => exact ⟨by show w2.heap.size ≤ w2.heap.size + 1; omega, by show w2.heap.size + 1 < _; omega, rfl, A30.out⟩
    | 1, _ => exact ⟨by show w2.heap.size ≤ w2.heap.size + 1 + 1; omega, by show w2.heap.size + 1 + 1 < _; omega, rfl, A31.out⟩))
  clear A30 A31 O3 Z3
  clear hb3 hl3 hp3 hc3
  go_wp2_with fail
  refine (partsAt_any _ _ _ _).mono ?_
  rintro e w4 ⟨⟨p4, rfl, hl4, hp4, hc4⟩, hb4⟩
  have S4 := Lib.hid (show SortsAt w4 w4.heap.size (some ⟨w3.heap.size, 0, none⟩) [false, true] from sorts_kept [false, true] rfl (bl_trans (bl_trans (bl_trans (bl_trans (alB _ _) (alB _ _)) (alB _ _)) (alB _ _)) hb4))
  have S5 := Lib.hid (show SortsAt w4 w4.heap.size (some ⟨w3.heap.size + 1, 0, none⟩) [false, false] from sorts_kept [false, false] (by simp) (bl_trans (bl_trans (bl_trans (alB _ _) (alB _ _)) (alB _ _)) hb4))
  have S6 := Lib.hid (show SortsAt w4 w4.heap.size (some ⟨w3.heap.size + 1 + 1, 0, none⟩) [true] from sorts_kept [true] (by simp) (bl_trans (bl_trans (alB _ _) (alB _ _)) hb4))
  have B4 := Lib.hid (show Below w3.heap.size w3 w4 from bl_trans (bl_trans (bl_trans (bl_trans (bl_trans (alB _ _) (alB _ _)) (alB _ _)) (alB _ _)) (alB _ _)) hb4)
  have A40 := Lib.hid (show PathAt w4 (w3.heap.size + 1 + 1 + 1) [0] from path_kept [0] (by simp) (bl_trans (alB _ _) hb4))
  have O4 := Lib.hid (row_kept (W' := w4) (g := w3.heap.size + 1 + 1 + 1 + 1) [(w3.heap.size + 1 + 1 + 1, 1)] (by simp) hb4)
  have Z4 := Lib.hid (show w3.heap.size + 1 + 1 + 1 + 1 < w4.heap.size from by have := hb4.size; simp at this; omega)
  have P4 := Lib.hid (show PathsBox w4 w3.heap.size w4.heap.size p4 (pathsL 6) from paths_of (q := w3.heap.size + 1 + 1 + 1 + 1) [(w3.heap.size + 1 + 1 + 1, 1)] (by simp at hl4; omega) hp4 (by omega) Z4.out 1 rfl hc4 O4.out rfl (fun j hj => by
    have := Z4.out
    match j, hj with
    | 0, _ => exact ⟨by show w3.heap.size ≤ w3.heap.size + 1 + 1 + 1; omega, by show w3.heap.size + 1 + 1 + 1 < _; omega, rfl, A40.out⟩))
  clear A40 O4 Z4
  clear hb4 hl4 hp4 hc4
  go_wp2_with fail
  refine (partsAt_any _ _ _ _).mono ?_
  rintro e w5 ⟨⟨p5, rfl, hl5, hp5, hc5⟩, hb5⟩
  have S7 := Lib.hid (show SortsAt w5 w5.heap.size (some ⟨w4.heap.size, 0, none⟩) [true, true, false, false] from sorts_kept [true, true, false, false] rfl (bl_trans (bl_trans (bl_trans (bl_trans (bl_trans (alB _ _) (alB _ _)) (alB _ _)) (alB _ _)) (alB _ _)) hb5))
  have B5 := Lib.hid (show Below w4.heap.size w4 w5 from bl_trans (bl_trans (bl_trans (bl_trans (bl_trans (bl_trans (alB _ _) (alB _ _)) (alB _ _)) (alB _ _)) (alB _ _)) (alB _ _)) hb5)
  have A50 := Lib.hid (show PathAt w5 (w4.heap.size + 1) [0, 0] from path_kept [0, 0] (by simp) (bl_trans (bl_trans (bl_trans (bl_trans (alB _ _) (alB _ _)) (alB _ _)) (alB _ _)) hb5))
  have A51 := Lib.hid (show PathAt w5 (w4.heap.size + 1 + 1) [0, 1] from path_kept [0, 1] (by simp) (bl_trans (bl_trans (bl_trans (alB _ _) (alB _ _)) (alB _ _)) hb5))
  have A52 := Lib.hid (show PathAt w5 (w4.heap.size + 1 + 1 + 1) [1, 0] from path_kept [1, 0] (by simp) (bl_trans (bl_trans (alB _ _) (alB _ _)) hb5))
  have A53 := Lib.hid (show PathAt w5 (w4.heap.size + 1 + 1 + 1 + 1) [1, 1] from path_kept [1, 1] (by simp) (bl_trans (alB _ _) hb5))
  have O5 := Lib.hid (row_kept (W' := w5) (g := w4.heap.size + 1 + 1 + 1 + 1 + 1) [(w4.heap.size + 1, 2), (w4.heap.size + 1 + 1, 2), (w4.heap.size + 1 + 1 + 1, 2), (w4.heap.size + 1 + 1 + 1 + 1, 2)] (by simp) hb5)
  have Z5 := Lib.hid (show w4.heap.size + 1 + 1 + 1 + 1 + 1 < w5.heap.size from by have := hb5.size; simp at this; omega)
  have P5 := Lib.hid (show PathsBox w5 w4.heap.size w5.heap.size p5 (pathsL 7) from paths_of (q := w4.heap.size + 1 + 1 + 1 + 1 + 1) [(w4.heap.size + 1, 2), (w4.heap.size + 1 + 1, 2), (w4.heap.size + 1 + 1 + 1, 2), (w4.heap.size + 1 + 1 + 1 + 1, 2)] (by simp at hl5; omega) hp5 (by omega) Z5.out 4 rfl hc5 O5.out rfl (fun j hj => by
    have := Z5.out
    match j, hj with
    | 0, _ => exact ⟨by show w4.heap.size ≤ w4.heap.size + 1; omega, by show w4.heap.size + 1 < _; omega, rfl, A50.out⟩
    | 1, _ => exact ⟨by show w4.heap.size ≤ w4.heap.size + 1 + 1; omega, by show w4.heap.size + 1 + 1 < _; omega, rfl, A51.out⟩
    | 2, _ => exact ⟨by show w4.heap.size ≤ w4.heap.size + 1 + 1 + 1; omega, by show w4.heap.size + 1 + 1 + 1 < _; omega, rfl, A52.out⟩
    | 3, _ => exact ⟨by show w4.heap.size ≤ w4.heap.size + 1 + 1 + 1 + 1; omega, by show w4.heap.size + 1 + 1 + 1 + 1 < _; omega, rfl, A53.out⟩))
  clear A50 A51 A52 A53 O5 Z5
  clear hb5 hl5 hp5 hc5
  go_wp2_with fail
  go_ret
  have K : ∀ o, Below w5.heap.size w5 (w5.alloc o) := fun o => alB w5 o
  have q1 := bl_trans B1.out (bl_trans B2.out (bl_trans B3.out (bl_trans B4.out B5.out)))
  refine ⟨bl_trans q1 (alB _ _), w5.heap.size, by simp, q1.size, rfl, ?_⟩
  have q1s := B1.out.size
  have q2s := (bl_trans B1.out B2.out).size
  have q3s := (bl_trans B1.out (bl_trans B2.out B3.out)).size
  have q4s := (bl_trans B1.out (bl_trans B2.out (bl_trans B3.out B4.out))).size
  have b4 := fun o => bl_trans B5.out (K o)
  have b3 := fun o => bl_trans B4.out (b4 o)
  have b2 := fun o => bl_trans B3.out (b3 o)
  have b1 := fun o => bl_trans B2.out (b2 o)
  intro k h1 h7
  have hk : k = 1 ∨ k = 2 ∨ k = 3 ∨ k = 4 ∨ k = 5 ∨ k = 6 ∨ k = 7 := by omega
  rcases hk with rfl | rfl | rfl | rfl | rfl | rfl | rfl
  · exact ⟨_, _, _, ⟨sorts_keep S1.out (b1 _) (b1 _).size, .inr (.inr ⟨by decide, by decide, rfl, _, rfl, P1.out.keep (b1 _) (b1 _).size⟩)⟩, cell_new _ _ _ 0, cell_new _ _ _ 1, cell_new _ _ _ 2, cell_new _ _ _ 3, cell_new _ _ _ 4, cell_new _ _ _ 5⟩
  · exact ⟨_, _, _, ⟨sorts_keep S2.out (b2 _) (b2 _).size, .inr (.inr ⟨by decide, by decide, rfl, _, rfl, (P2.out.lo q1s).keep (b2 _) (b2 _).size⟩)⟩, cell_new _ _ _ 6, cell_new _ _ _ 7, cell_new _ _ _ 8, cell_new _ _ _ 9, cell_new _ _ _ 10, cell_new _ _ _ 11⟩
  · exact ⟨_, _, _, ⟨sorts_keep S3.out (b3 _) (b3 _).size, .inr (.inr ⟨by decide, by decide, rfl, _, rfl, (P3.out.lo q2s).keep (b3 _) (b3 _).size⟩)⟩, cell_new _ _ _ 12, cell_new _ _ _ 13, cell_new _ _ _ 14, cell_new _ _ _ 15, cell_new _ _ _ 16, cell_new _ _ _ 17⟩
  · exact ⟨_, _, _, ⟨sorts_keep S4.out (b4 _) (b4 _).size, .inl ⟨rfl, rfl, rfl⟩⟩, cell_new _ _ _ 18, cell_new _ _ _ 19, cell_new _ _ _ 20, cell_new _ _ _ 21, cell_new _ _ _ 22, cell_new _ _ _ 23⟩
  · exact ⟨_, _, _, ⟨sorts_keep S5.out (b4 _) (b4 _).size, .inr (.inl ⟨rfl, rfl, rfl⟩)⟩, cell_new _ _ _ 24, cell_new _ _ _ 25, cell_new _ _ _ 26, cell_new _ _ _ 27, cell_new _ _ _ 28, cell_new _ _ _ 29⟩
  · exact ⟨_, _, _, ⟨sorts_keep S6.out (b4 _) (b4 _).size, .inr (.inr ⟨by decide, by decide, rfl, _, rfl, (P4.out.lo q3s).keep (b4 _) (b4 _).size⟩)⟩, cell_new _ _ _ 30, cell_new _ _ _ 31, cell_new _ _ _ 32, cell_new _ _ _ 33, cell_new _ _ _ 34, cell_new _ _ _ 35⟩
  · exact ⟨_, _, _, ⟨sorts_keep S7.out (K _) (K _).size, .inr (.inr ⟨by decide, by decide, rfl, _, rfl, (P5.out.lo q4s).keep (K _) (K _).size⟩)⟩, cell_new _ _ _ 36, cell_new _ _ _ 37, cell_new _ _ _ 38, cell_new _ _ _ 39, cell_new _ _ _ 40, cell_new _ _ _ 41⟩
end Go.Proofs.YtgnfbhemkombaaaGreat
namespace Go.Proofs.YtgnfbhemkombaaaGreat
open Go.RowKit
set_option linter.unusedVariables false
set_option linter.unusedSimpArgs false
/-- six cells of a box -/
def Box6 (w : World) (b : Nat) (x0 x1 x2 x3 x4 x5 : Value) : Prop := w.heap[b]? = some (.cells #[x0, x1, x2, x3, x4, x5] 50 (0, 0))
theorem Box6.cells {w : World} {b : Nat} {x0 x1 x2 x3 x4 x5 : Value} (h : Box6 w b x0 x1 x2 x3 x4 x5) : w.cell? ⟨b, 0, none⟩ = some x0 ∧ w.cell? ⟨b, 1, none⟩ = some x1 ∧ w.cell? ⟨b, 2, none⟩ = some x2 ∧ w.cell? ⟨b, 3, none⟩ = some x3 ∧ w.cell? ⟨b, 4, none⟩ = some x4 ∧ w.cell? ⟨b, 5, none⟩ = some x5 := by
  unfold World.cell?
  rw [show w.heap[b]? = _ from h]
  exact ⟨rfl, rfl, rfl, rfl, rfl, rfl⟩
theorem Box6.lt {w : World} {b : Nat} {x0 x1 x2 x3 x4 x5 : Value} (h : Box6 w b x0 x1 x2 x3 x4 x5) : b < w.heap.size := (Array.getElem?_eq_some_iff.1 h).1
theorem Box6.keep {w w' : World} {b B : Nat} {x0 x1 x2 x3 x4 x5 : Value} (h : Box6 w b x0 x1 x2 x3 x4 x5) (hb : Below B w w') (hB : b < B) : Box6 w' b x0 x1 x2 x3 x4 x5 := (hb.block b hB).trans h
theorem Box6.new (w : World) (x0 x1 x2 x3 x4 x5 : Value) : Box6 (w.alloc (.cells #[x0, x1, x2, x3, x4, x5] 50)) w.heap.size x0 x1 x2 x3 x4 x5 := new_at w _
theorem Box6.frozen {w : World} {b : Nat} {x0 x1 x2 x3 x4 x5 : Value} (h : Box6 w b x0 x1 x2 x3 x4 x5) (o : Nat) : w.frozen? ⟨b, o, none⟩ = false := by
  unfold World.frozen?
  rw [show w.heap[b]? = _ from h]
  simp
set_option maxHeartbeats 1000000 in
theorem numbered1_any (j k : Int) (S : Option Addr) (n c f g v kb : Nat) (nm : Bool) (vc : Array Value) (w : World) (hlt : kb < w.heap.size) (hk : w.cell? ⟨kb, 0, none⟩ = some (.int .i64 k)) :
    Calls Tryz.prog 66 #[.agg #[.int .i64 j, .slice S n c, .bool nm, .func (.func f) #[] #[], .func (.func g) #[] #[], .func (.func v) #[] vc], .pointer (some ⟨kb, 0, none⟩)] w fun e w' => e = .returned (.bool (j == k)) ∧ Below w.heap.size w w' := by
  have B1 := Lib.hid (alB w (.cells #[.int .i64 j, .slice S n c, .bool nm, .func (.func f) #[] #[], .func (.func g) #[] #[], .func (.func v) #[] vc] 50))
  have E1 := Box6.new w (.int .i64 j) (.slice S n c) (.bool nm) (.func (.func f) #[] #[]) (.func (.func g) #[] #[]) (.func (.func v) #[] vc)
  obtain ⟨e0, e1, e2, e3, e4, e5⟩ := E1.cells
  have k0 := (B1.out.cell (p := ⟨kb, 0, none⟩) hlt).trans hk
  clear E1 hk
  go_enter Tryz.func66, Tryz.ntmps66
  go_wp2_with fail
  go_ret
  exact ⟨rfl, B1.out⟩
/-- what faultOf answers -/
def faultN (n m : Nat) (nm : Bool) (x : Int) (r : Nat) : Nat := if n ≠ m ∨ x < 0 ∨ 63 < x ∨ (x ≠ 0 ∧ nm = false) then 71 else r
set_option maxHeartbeats 1000000 in
set_option maxRecDepth 100000 in
theorem rowFault_any (l : Tr) (A S : Option Addr) (c f g v : Nat) (cs : List Bool) (nm : Bool) (vc : Array Value) (k x : Int) (w : World) (hl : IsT w w.heap.size l A c) (hS : SortsAt w w.heap.size S cs) :
    Calls Tryz.prog 28 #[.agg #[.int .i64 k, .slice S cs.length cs.length, .bool nm, .func (.func f) #[] #[], .func (.func g) #[] #[], .func (.func v) #[] vc], .agg #[.slice A l.ks.length c, .int .i64 x]] w
      fun e w' => e = .returned (.int .i64 (faultN l.ks.length cs.length nm x (sortedN l.ks cs) : Nat)) ∧ Below w.heap.size w w' := by
  obtain ⟨W1, hW1⟩ : ∃ W1, W1 = w.alloc (.cells #[.int .i64 k, .slice S cs.length cs.length, .bool nm, .func (.func f) #[] #[], .func (.func g) #[] #[], .func (.func v) #[] vc] 50) := ⟨_, rfl⟩
  have hz : W1.heap.size = w.heap.size + 1 := by rw [hW1]; simp
  have b1 : Below w.heap.size w W1 := by rw [hW1]; exact alB w _
  have E1 : Box6 W1 w.heap.size (.int .i64 k) (.slice S cs.length cs.length) (.bool nm) (.func (.func f) #[] #[]) (.func (.func g) #[] #[]) (.func (.func v) #[] vc) := by rw [hW1]; exact Box6.new w _ _ _ _ _ _
  have b2 := alB W1 (.cells #[.slice A l.ks.length c, .int .i64 x] 32)
  obtain ⟨e0, e1, e2, e3, e4, e5⟩ := (E1.keep b2 E1.lt).cells
  have P := BoxP.new W1 A l.ks.length c x
  rw [hz] at P
  obtain ⟨p0, p1⟩ := P.cells
  have BB := Lib.hid (bl_trans b1 b2)
  have HT := Lib.hid (IsT.up hl BB.out)
  have HS := Lib.hid (sorts_keep hS BB.out BB.out.size)
  have ln := hl.len
  rw [hW1] at e0 e1 e2 e3 e4 e5 p0 p1 BB HT HS
  clear hl hS b1 b2 E1 P hz hW1 W1
  by_cases h1 : l.ks.length = cs.length
  · have t1 : ((l.ks.length : Int) != (cs.length : Int)) = false := by rw [h1]; simp
    have H1 := Lib.hid h1
    clear h1
    by_cases h2 : x < 0
    · have F := Lib.hid (show faultN l.ks.length cs.length nm x (sortedN l.ks cs) = 71 from if_pos (by simp [h2]))
      go_enter Tryz.func28, Tryz.ntmps28
      go_wp2_with fail
      go_ret
      exact ⟨by rw [F.out]; rfl, BB.out⟩
    · by_cases h3 : 63 < x
      · have F := Lib.hid (show faultN l.ks.length cs.length nm x (sortedN l.ks cs) = 71 from if_pos (by simp [h3]))
        go_enter Tryz.func28, Tryz.ntmps28
        go_wp2_with fail
        go_ret
        exact ⟨by rw [F.out]; rfl, BB.out⟩
      · by_cases h4 : x = 0
        · have F := Lib.hid (show faultN l.ks.length cs.length nm x (sortedN l.ks cs) = sortedN l.ks cs from if_neg (by simp [H1.out, h4]))
          subst h4
          go_enter Tryz.func28, Tryz.ntmps28
          go_wp2_with fail
          refine (listFault_any l A S c cs.length cs _ (by exact HT.out) H1.out.symm (by exact HS.out)).mono ?_
          rintro e w5 ⟨rfl, hb5⟩
          go_wp2_with fail
          go_ret
          exact ⟨by rw [F.out]; rfl, bl_trans BB.out hb5⟩
        · have t4 : (x != 0) = true := by simpa using h4
          cases nm with
          | true =>
            have F := Lib.hid (show faultN l.ks.length cs.length true x (sortedN l.ks cs) = sortedN l.ks cs from if_neg (by simp [H1.out, h2, h3]))
            go_enter Tryz.func28, Tryz.ntmps28
            go_wp2_with fail
            refine (listFault_any l A S c cs.length cs _ (by exact HT.out) H1.out.symm (by exact HS.out)).mono ?_
            rintro e w5 ⟨rfl, hb5⟩
            go_wp2_with fail
            go_ret
            exact ⟨by rw [F.out]; rfl, bl_trans BB.out hb5⟩
          | false =>
            have F := Lib.hid (show faultN l.ks.length cs.length false x (sortedN l.ks cs) = 71 from if_pos (by simp [h4]))
            go_enter Tryz.func28, Tryz.ntmps28
            go_wp2_with fail
            go_ret
            exact ⟨by rw [F.out]; rfl, BB.out⟩
  · have t1 : ((l.ks.length : Int) != (cs.length : Int)) = true := by rw [bne_iff_ne]; omega
    have F := Lib.hid (show faultN l.ks.length cs.length nm x (sortedN l.ks cs) = 71 from if_pos (by simp [h1]))
    go_enter Tryz.func28, Tryz.ntmps28
    go_wp2_with fail
    go_ret
    exact ⟨by rw [F.out]; rfl, BB.out⟩
end Go.Proofs.YtgnfbhemkombaaaGreat
namespace Go.Proofs.YtgnfbhemkombaaaGreat
open Go.RowKit
set_option linter.unusedVariables false
set_option linter.unusedSimpArgs false
theorem Box6.setall {w : World} {b : Nat} {x0 x1 x2 x3 x4 x5 : Value} (h : Box6 w b x0 x1 x2 x3 x4 x5) (y0 y1 y2 y3 y4 y5 : Value) :
    Box6 ((((((w.setCell ⟨b, 0, none⟩ y0).setCell ⟨b, 1, none⟩ y1).setCell ⟨b, 2, none⟩ y2).setCell ⟨b, 3, none⟩ y3).setCell ⟨b, 4, none⟩ y4).setCell ⟨b, 5, none⟩ y5) b y0 y1 y2 y3 y4 y5 := by
  unfold Box6 at *
  unfold World.setCell
  simp [Array.getElem?_modify, h]
theorem below_set6 {B b : Nat} {w w' : World} (h : Below B w w') (hb : B ≤ b) (x y z u v t : Value) : Below B w ((((((w'.setCell ⟨b, 0, none⟩ x).setCell ⟨b, 1, none⟩ y).setCell ⟨b, 2, none⟩ z).setCell ⟨b, 3, none⟩ u).setCell ⟨b, 4, none⟩ v).setCell ⟨b, 5, none⟩ t) :=
  (((((h.setCell (p := ⟨b, 0, none⟩) hb _).setCell (p := ⟨b, 1, none⟩) hb _).setCell (p := ⟨b, 2, none⟩) hb _).setCell (p := ⟨b, 3, none⟩) hb _).setCell (p := ⟨b, 4, none⟩) hb _).setCell (p := ⟨b, 5, none⟩) hb _
/-- schema k, if there is one -/
def NumP (lo : Nat) (w : World) (k : Int) (e : Ending) (w' : World) : Prop :=
  Below w.heap.size w w' ∧ ((¬ (1 ≤ k ∧ k ≤ 7) ∧ e = .returned (.tuple #[.agg #[.int .i64 0, .slice none 0 0, .bool false, .nilFunc, .nilFunc, .nilFunc], .bool false])) ∨
    ∃ (n : Nat) (S : Option Addr) (vf : Nat) (vc : Array Value), k = (n : Int) ∧ 1 ≤ n ∧ n ≤ 7 ∧ (SortsAt w' w'.heap.size S (sortsL n) ∧ SplitAt w' lo w'.heap.size n vf vc) ∧
      e = .returned (.tuple #[.agg #[.int .i64 (n : Int), .slice S (sortsL n).length (sortsL n).length, .bool (decide (n = 4 ∨ n = 5)), .func (.func (fillF n)) #[] #[], .func (.func (sideF n)) #[] #[], .func (.func vf) #[] vc], .bool true]))
set_option maxHeartbeats 1000000 in
set_option maxRecDepth 100000 in
theorem searchS_any (lo b o kb : Nat) (k : Int) (w : World) (hb : b < w.heap.size) (hlt : kb < w.heap.size) (hk : w.cell? ⟨kb, 0, none⟩ = some (.int .i64 k)) (hT : ∀ j, 1 ≤ j → j ≤ 7 → RowK w lo w.heap.size b (o + (j - 1) * 6) j) :
    Calls Tryz.prog 65 #[.slice (some ⟨b, o, none⟩) 7 7, .func (.func 66) #[] #[.pointer (some ⟨kb, 0, none⟩)]] w (NumP lo w k) := by
  have HT := Lib.hid hT
  have HK := Lib.hid hk
  have N0 := Lib.hid (Box6.new w (.int .i64 0) (.slice none 0 0) (.bool false) .nilFunc .nilFunc .nilFunc)
  have B0 := Lib.hid (alB w (.cells #[.int .i64 0, .slice none 0 0, .bool false, .nilFunc, .nilFunc, .nilFunc] 50))
  clear hk hT
  go_enter Tryz.func65, Tryz.ntmps65
  go_wp2_with fail
  go_loopw [11] (fun i wr => ∃ m : Nat, m ≤ 7 ∧ i = .int .i64 m ∧ (∀ j : Nat, 1 ≤ j → j ≤ m → (j : Int) ≠ k) ∧ Below w.heap.size w wr ∧ Box6 wr w.heap.size (.int .i64 0) (.slice none 0 0) (.bool false) .nilFunc .nilFunc .nilFunc) (fun i _ => 7 - (intOf i).toNat)
  case atStart => exact ⟨0, Nat.zero_le _, rfl, by intro j h1 h2; omega, B0.out, N0.out⟩
  case round =>
    obtain ⟨m, hm', rfl, hf, hbr, hnb⟩ := hrel
    have HF := Lib.hid hf
    clear hf
    by_cases hl7 : m < 7
    · obtain ⟨S, vf, vc, hS, c0, c1, c2, c3, c4, c5⟩ := HT.out (m + 1) (by omega) (by omega)
      rw [show m + 1 - 1 = m from rfl] at c0 c1 c2 c3 c4 c5
      have HS := Lib.hid hS
      have e0 := (hbr.cell (p := ⟨b, o + m * 6, none⟩) hb).trans c0
      have e1 := (hbr.cell (p := ⟨b, o + m * 6 + 1, none⟩) hb).trans c1
      have e2 := (hbr.cell (p := ⟨b, o + m * 6 + 2, none⟩) hb).trans c2
      have e3 := (hbr.cell (p := ⟨b, o + m * 6 + 3, none⟩) hb).trans c3
      have e4 := (hbr.cell (p := ⟨b, o + m * 6 + 4, none⟩) hb).trans c4
      have e5 := (hbr.cell (p := ⟨b, o + m * 6 + 5, none⟩) hb).trans c5
      clear hS c0 c1 c2 c3 c4 c5
      obtain ⟨ln, hln⟩ : ∃ ln, ln = (sortsL (m + 1)).length := ⟨_, rfl⟩
      obtain ⟨nm, hnm⟩ : ∃ nm, nm = decide (m + 1 = 4 ∨ m + 1 = 5) := ⟨_, rfl⟩
      obtain ⟨ff, hff⟩ : ∃ ff, ff = fillF (m + 1) := ⟨_, rfl⟩
      obtain ⟨sf, hsf⟩ : ∃ sf, sf = sideF (m + 1) := ⟨_, rfl⟩
      rw [← hln] at e1
      rw [← hnm] at e2
      rw [← hff] at e3
      rw [← hsf] at e4
      have EQ := Lib.hid (And.intro (And.intro hln hnm) (And.intro hff hsf))
      clear hln hnm hff hsf
      have E1 := Lib.hid (Box6.new wr (.int .i64 ((m + 1 : Nat) : Int)) (.slice S ln ln) (.bool nm) (.func (.func ff) #[] #[]) (.func (.func sf) #[] #[]) (.func (.func vf) #[] vc))
      obtain ⟨y0, y1, y2, y3, y4, y5⟩ := E1.out.cells
      have hsz := hnb.lt
      have A1 := Lib.hid (alB wr (.cells #[.int .i64 ((m + 1 : Nat) : Int), .slice S ln ln, .bool nm, .func (.func ff) #[] #[], .func (.func sf) #[] #[], .func (.func vf) #[] vc] 50))
      have N1 := Lib.hid (hnb.keep A1.out hsz)
      have B1 := Lib.hid (hbr.trans (A1.out.mono hbr.size))
      clear hnb
      go_wp2_with fail
      refine (numbered1_any ((m + 1 : Nat) : Int) k S ln ln ff sf vf kb nm vc _ (by exact Nat.lt_of_lt_of_le hlt B1.out.size) (by exact (B1.out.cell (p := ⟨kb, 0, none⟩) hlt).trans HK.out)).mono ?_
      rintro e w1 ⟨rfl, hb1⟩
      have E2 := Lib.hid (E1.out.keep hb1 E1.out.lt)
      have N2 := Lib.hid (N1.out.keep hb1 N1.out.lt)
      have B2 := Lib.hid (B1.out.trans (hb1.mono B1.out.size))
      clear hb1 e0 e1 e2 e3 e4 e5 y0 y1 y2 y3 y4 y5 E1 N1 A1 B1
      obtain ⟨y0, y1, y2, y3, y4, y5⟩ := E2.out.cells
      by_cases hr : ((m + 1 : Nat) : Int) = k
      · rw [show (((m + 1 : Nat) : Int) == k) = true from by rw [hr]; exact beq_self_eq_true _]
        have HR := Lib.hid hr
        clear hr
        have f0 := N2.out.frozen 0
        have f1 := N2.out.frozen 1
        have f2 := N2.out.frozen 2
        have f3 := N2.out.frozen 3
        have f4 := N2.out.frozen 4
        have f5 := N2.out.frozen 5
        obtain ⟨n0, n1, n2, n3, n4, n5⟩ := N2.out.cells
        go_wp2_with fail
        obtain ⟨x0, x1, x2, x3, x4, x5⟩ := (N2.out.setall (.int .i64 ((m : Int) + 1)) (.slice S ln ln) (.bool nm) (.func (.func ff) #[] #[]) (.func (.func sf) #[] #[]) (.func (.func vf) #[] vc)).cells
        have BL := below_set6 B2.out (Nat.le_refl _) (.int .i64 ((m : Int) + 1)) (.slice S ln ln) (.bool nm) (.func (.func ff) #[] #[]) (.func (.func sf) #[] #[]) (.func (.func vf) #[] vc)
        exact bodyPost_ret (v := .tuple #[.agg #[.int .i64 ((m : Int) + 1), .slice S ln ln, .bool nm, .func (.func ff) #[] #[], .func (.func sf) #[] #[], .func (.func vf) #[] vc], .bool true]) (by simp [results, Tryz.results65, go_sem, x0, x1, x2, x3, x4, x5]) rfl
          ⟨BL, .inr ⟨m + 1, S, vf, vc, HR.out.symm, by omega, by omega, ⟨sorts_keep HS.out.1 BL BL.size, HS.out.2.keep BL BL.size⟩, by have q := EQ.out; obtain ⟨⟨rfl, rfl⟩, rfl, rfl⟩ := q; rfl⟩⟩
      · rw [show (((m + 1 : Nat) : Int) == k) = false from by rw [beq_eq_false_iff_ne]; exact hr]
        have HR := Lib.hid hr
        clear hr
        go_wp2_with fail
        go_roundw
        case rel =>
          refine ⟨m + 1, by omega, by go_num, ?_, B2.out, N2.out⟩
          intro j h1 h2
          by_cases hj : j = m + 1
          · subst hj; exact HR.out
          · exact HF.out j h1 (by omega)
        case measure => simp [intOf]; omega
    · obtain rfl : m = 7 := by omega
      have N1 := Lib.hid (hnb.keep (alB wr (.cells #[.int .i64 0, .slice none 0 0, .bool false, .nilFunc, .nilFunc, .nilFunc] 50)) hnb.lt)
      have B1 := Lib.hid (hbr.trans ((alB wr (.cells #[.int .i64 0, .slice none 0 0, .bool false, .nilFunc, .nilFunc, .nilFunc] 50)).mono hbr.size))
      have f0 := N1.out.frozen 0
      have f1 := N1.out.frozen 1
      have f2 := N1.out.frozen 2
      have f3 := N1.out.frozen 3
      have f4 := N1.out.frozen 4
      have f5 := N1.out.frozen 5
      obtain ⟨n0, n1, n2, n3, n4, n5⟩ := N1.out.cells
      go_wp2_with fail
      obtain ⟨x0, x1, x2, x3, x4, x5⟩ := (N1.out.setall (.int .i64 0) (.slice none 0 0) (.bool false) .nilFunc .nilFunc .nilFunc).cells
      have NK : ¬ (1 ≤ k ∧ k ≤ 7) := by
        rintro ⟨k1, k7⟩
        exact HF.out k.toNat (by omega) (by omega) (by omega)
      exact bodyPost_ret (v := .tuple #[.agg #[.int .i64 0, .slice none 0 0, .bool false, .nilFunc, .nilFunc, .nilFunc], .bool false]) (by simp [results, Tryz.results65, go_sem, x0, x1, x2, x3, x4, x5]) rfl
        ⟨below_set6 B1.out (Nat.le_refl _) _ _ _ _ _ _, .inl ⟨NK, rfl⟩⟩
end Go.Proofs.YtgnfbhemkombaaaGreat
namespace Go.Proofs.YtgnfbhemkombaaaGreat
open Go.RowKit
set_option linter.unusedVariables false
set_option linter.unusedSimpArgs false
theorem sorts_off {w : World} {r B : Nat} {S : Option Addr} {cs : List Bool} (h : Box6 w r (.int .i64 0) (.slice none 0 0) (.bool false) .nilFunc .nilFunc .nilFunc) (hS : SortsAt w B S cs) (x y z u v t : Value) :
    SortsAt ((((((w.setCell ⟨r, 0, none⟩ x).setCell ⟨r, 1, none⟩ y).setCell ⟨r, 2, none⟩ z).setCell ⟨r, 3, none⟩ u).setCell ⟨r, 4, none⟩ v).setCell ⟨r, 5, none⟩ t) B S cs := by
  intro j hj
  obtain ⟨b, o, e, hlt, hc⟩ := hS j hj
  have hne : b ≠ r := by
    rintro rfl
    unfold World.cell? at hc
    rw [show w.heap[b]? = _ from h] at hc
    have hc' : (#[.int .i64 0, .slice none 0 0, .bool false, .nilFunc, .nilFunc, .nilFunc] : Array Value)[o + j]? = some (sortV cs[j]) := hc
    generalize o + j = q at hc'
    generalize cs[j] = d at hc'
    match q with
    | 0 => cases d <;> exact absurd hc' (by simp [sortV])
    | 1 => cases d <;> exact absurd hc' (by simp [sortV])
    | 2 => cases d <;> exact absurd hc' (by simp [sortV])
    | 3 => cases d <;> exact absurd hc' (by simp [sortV])
    | 4 => cases d <;> exact absurd hc' (by simp [sortV])
    | 5 => cases d <;> exact absurd hc' (by simp [sortV])
    | q + 6 => cases d <;> exact absurd hc' (by simp [sortV])
  refine ⟨b, o, e, hlt, ?_⟩
  unfold World.cell? at hc ⊢
  rw [heap_setCell_other _ ⟨r, 5, none⟩ _ b hne, heap_setCell_other _ ⟨r, 4, none⟩ _ b hne, heap_setCell_other _ ⟨r, 3, none⟩ _ b hne, heap_setCell_other _ ⟨r, 2, none⟩ _ b hne, heap_setCell_other _ ⟨r, 1, none⟩ _ b hne, heap_setCell_other _ ⟨r, 0, none⟩ _ b hne]
  exact hc
theorem split_off {w : World} {lo lo' r k vf : Nat} {vc : Array Value} (h : SplitAt w lo' w.heap.size k vf vc) (hr : r < lo') (hl : lo ≤ lo') (x y z u v t : Value) :
    SplitAt ((((((w.setCell ⟨r, 0, none⟩ x).setCell ⟨r, 1, none⟩ y).setCell ⟨r, 2, none⟩ z).setCell ⟨r, 3, none⟩ u).setCell ⟨r, 4, none⟩ v).setCell ⟨r, 5, none⟩ t) lo ((((((w.setCell ⟨r, 0, none⟩ x).setCell ⟨r, 1, none⟩ y).setCell ⟨r, 2, none⟩ z).setCell ⟨r, 3, none⟩ u).setCell ⟨r, 4, none⟩ v).setCell ⟨r, 5, none⟩ t).heap.size k vf vc := by
  have h' := h.move (w' := (((((w.setCell ⟨r, 0, none⟩ x).setCell ⟨r, 1, none⟩ y).setCell ⟨r, 2, none⟩ z).setCell ⟨r, 3, none⟩ u).setCell ⟨r, 4, none⟩ v).setCell ⟨r, 5, none⟩ t) (B' := w.heap.size) (fun b hb _ => by
    have hne : b ≠ r := by omega
    rw [heap_setCell_other _ ⟨r, 5, none⟩ _ b hne, heap_setCell_other _ ⟨r, 4, none⟩ _ b hne, heap_setCell_other _ ⟨r, 3, none⟩ _ b hne, heap_setCell_other _ ⟨r, 2, none⟩ _ b hne, heap_setCell_other _ ⟨r, 1, none⟩ _ b hne, heap_setCell_other _ ⟨r, 0, none⟩ _ b hne]) (Nat.le_refl _)
  rcases h' with h | h | ⟨h1, h2, h3, p, h4, h5⟩
  · exact .inl h
  · exact .inr (.inl h)
  · exact .inr (.inr ⟨h1, h2, h3, p, h4, by simpa using h5.lo hl⟩)
set_option maxHeartbeats 1000000 in
set_option maxRecDepth 100000 in
theorem numbered_any (k : Int) (w : World) : Calls Tryz.prog 27 #[.int .i64 k] w (NumP w.heap.size w k) := by
  obtain ⟨W0, hW0⟩ : ∃ W0, W0 = (w.alloc (.cells #[.int .i64 k] 3)).alloc (.cells #[.int .i64 0, .slice none 0 0, .bool false, .nilFunc, .nilFunc, .nilFunc] 50) := ⟨_, rfl⟩
  have hz : W0.heap.size = w.heap.size + 2 := by rw [hW0]; simp
  have B0 : Below w.heap.size w W0 := by rw [hW0]; exact bl_trans (alB _ _) (alB _ _)
  have N0 : Box6 W0 (w.heap.size + 1) (.int .i64 0) (.slice none 0 0) (.bool false) .nilFunc .nilFunc .nilFunc := by
    have h := Box6.new (w.alloc (.cells #[.int .i64 k] 3)) (.int .i64 0) (.slice none 0 0) (.bool false) .nilFunc .nilFunc .nilFunc
    rw [hW0]
    simpa using h
  have K0 : W0.cell? ⟨w.heap.size, 0, none⟩ = some (.int .i64 k) := by
    rw [hW0, (alB (w.alloc (.cells #[.int .i64 k] 3)) _).cell (p := ⟨w.heap.size, 0, none⟩) (by simp), cell_new]
    rfl
  have HZ := Lib.hid hz
  have HB := Lib.hid B0
  have HN := Lib.hid N0
  have HK := Lib.hid K0
  have HW := Lib.hid hW0
  clear hz B0 N0 K0 hW0
  go_enter Tryz.func27, Tryz.ntmps27
  go_wp2_with fail
  rw [← HW.out]
  refine (schemas_any _).mono ?_
  rintro e w1 ⟨hb1, b, hb, hge, rfl, hT⟩
  have H1 := Lib.hid hb1
  have HT := Lib.hid hT
  have N1 := Lib.hid (HN.out.keep hb1 HN.out.lt)
  have K1 := Lib.hid ((hb1.cell (p := ⟨w.heap.size, 0, none⟩) (by have := HZ.out; show w.heap.size < _; omega)).trans HK.out)
  have L1 := Lib.hid hb
  have z1 := Lib.hid hb1.size
  clear hb1 hT hb hge
  go_wp2_with fail
  refine (searchS_any W0.heap.size b 0 w.heap.size k _ L1.out (by have := HZ.out; have := z1.out; omega) K1.out (fun j h1 h7 => by have := HT.out j h1 h7; rwa [show 6 * (j - 1) = 0 + (j - 1) * 6 by omega] at this)).mono ?_
  rintro e w2 ⟨hb2, hcase⟩
  have N2 := Lib.hid (N1.out.keep hb2 N1.out.lt)
  have B2 := Lib.hid (bl_trans HB.out (bl_trans H1.out hb2))
  clear hb2
  have f0 := N2.out.frozen 0
  have f1 := N2.out.frozen 1
  have f2 := N2.out.frozen 2
  have f3 := N2.out.frozen 3
  have f4 := N2.out.frozen 4
  have f5 := N2.out.frozen 5
  obtain ⟨n0, n1, n2, n3, n4, n5⟩ := N2.out.cells
  rcases hcase with ⟨nk, rfl⟩ | ⟨n, S, vf, vc, hkn, h1, h7, hS, rfl⟩
  · have NK := Lib.hid nk
    clear nk
    go_wp2_with fail
    obtain ⟨x0, x1, x2, x3, x4, x5⟩ := (N2.out.setall (.int .i64 0) (.slice none 0 0) (.bool false) .nilFunc .nilFunc .nilFunc).cells
    exact bodyPost_ret (v := .tuple #[.agg #[.int .i64 0, .slice none 0 0, .bool false, .nilFunc, .nilFunc, .nilFunc], .bool false]) (by simp [results, Tryz.results27, go_sem, x0, x1, x2, x3, x4, x5]) rfl
      ⟨below_set6 B2.out (Nat.le_succ _) _ _ _ _ _ _, .inl ⟨NK.out, rfl⟩⟩
  · have HS := Lib.hid hS
    have HR := Lib.hid (And.intro hkn (And.intro h1 h7))
    clear hS hkn h1 h7
    obtain ⟨ln, hln⟩ : ∃ ln, ln = (sortsL n).length := ⟨_, rfl⟩
    obtain ⟨nm, hnm⟩ : ∃ nm, nm = decide (n = 4 ∨ n = 5) := ⟨_, rfl⟩
    obtain ⟨ff, hff⟩ : ∃ ff, ff = fillF n := ⟨_, rfl⟩
    obtain ⟨sf, hsf⟩ : ∃ sf, sf = sideF n := ⟨_, rfl⟩
    rw [← hln, ← hnm, ← hff, ← hsf]
    have EQ := Lib.hid (And.intro (And.intro hln hnm) (And.intro hff hsf))
    clear hln hnm hff hsf
    go_wp2_with fail
    obtain ⟨x0, x1, x2, x3, x4, x5⟩ := (N2.out.setall (.int .i64 (n : Int)) (.slice S ln ln) (.bool nm) (.func (.func ff) #[] #[]) (.func (.func sf) #[] #[]) (.func (.func vf) #[] vc)).cells
    have BS := below_set6 (Below.refl w2.heap.size w2) (Nat.le_refl _) (.int .i64 (n : Int)) (.slice S ln ln) (.bool nm) (.func (.func ff) #[] #[]) (.func (.func sf) #[] #[]) (.func (.func vf) #[] vc)
    have BL := below_set6 B2.out (Nat.le_succ _) (.int .i64 (n : Int)) (.slice S ln ln) (.bool nm) (.func (.func ff) #[] #[]) (.func (.func sf) #[] #[]) (.func (.func vf) #[] vc)
    exact bodyPost_ret (v := .tuple #[.agg #[.int .i64 (n : Int), .slice S ln ln, .bool nm, .func (.func ff) #[] #[], .func (.func sf) #[] #[], .func (.func vf) #[] vc], .bool true]) (by simp [results, Tryz.results27, go_sem, x0, x1, x2, x3, x4, x5]) rfl
      ⟨BL, .inr ⟨n, S, vf, vc, HR.out.1, HR.out.2.1, HR.out.2.2, ⟨by have q := sorts_off N2.out HS.out.1 (.int .i64 (n : Int)) (.slice S ln ln) (.bool nm) (.func (.func ff) #[] #[]) (.func (.func sf) #[] #[]) (.func (.func vf) #[] vc); simpa using q, split_off HS.out.2 (by have := HZ.out; omega) (by have := HZ.out; omega) _ _ _ _ _ _⟩, by have q := EQ.out; obtain ⟨⟨rfl, rfl⟩, rfl, rfl⟩ := q; rfl⟩⟩
end Go.Proofs.YtgnfbhemkombaaaGreat
namespace Go.Proofs.YtgnfbhemkombaaaGreat
open Go.RowKit
set_option linter.unusedVariables false
set_option linter.unusedSimpArgs false
set_option maxHeartbeats 400000 in
theorem hIsVar_any (k i : Int) (A : Option Addr) (n c : Nat) (w : World) :
    Calls Tryz.prog 102 #[.agg #[.int .i64 k, .int .i64 i, .slice A n c]] w fun e w' => e = .returned (.bool (decide (k = 1))) ∧ Below w.heap.size w w' := by
  have hb : Below w.heap.size w (w.alloc (.cells #[.int .i64 k, .int .i64 i, .slice A n c] 24)) := (Below.refl _ _).alloc (Nat.le_refl _) _
  by_cases h1 : k = 1
  · subst h1
    go_enter Tryz.func102, Tryz.ntmps102
    go_wp2
    go_ret
    exact ⟨rfl, hb⟩
  · have h1' : (k == 1) = false := by simpa using h1
    have T := Lib.hid (show decide (k = 1) = false by simp [h1])
    go_enter Tryz.func102, Tryz.ntmps102
    go_wp2
    go_ret
    exact ⟨by rw [T.out]; rfl, hb⟩
set_option maxHeartbeats 2000000 in
set_option maxRecDepth 100000 in
theorem occur_any (x : Int) : ∀ (N : Nat) (t : Tr) (A : Option Addr) (c : Nat) (w : World), t.sz ≤ N → t.sz ≤ 1000 → IsT w w.heap.size t A c →
    Calls Tryz.prog 80 #[.int .i64 x, .agg #[.int .i64 t.k, .int .i64 t.i, .slice A t.ks.length c]] w fun e w' => e = .returned (.int .i64 (occN x t : Int)) ∧ Below w.heap.size w w' := by
  intro N
  induction N with
  | zero => intro t A c w h; have := sz_pos t; omega
  | succ N ih =>
    intro t A c w hN hsz ht
    have IH := Lib.hid ih
    have E0 := Lib.hid (env1 ht)
    have E := Lib.hid (occN_eq x t)
    have hl := ht.len
    have tz := sz_eq t
    clear ih ht
    go_enter Tryz.func80, Tryz.ntmps80
    go_upto_region 1 with fail
    go_cut [8] (fun v wc => v = .bool (decide (t.k = 1 ∧ t.i = x)) ∧ Env w wc [(w.heap.size, t, A, c)])
    case first =>
      obtain ⟨a0, a1, a2⟩ := E0.out.cells w.heap.size t A c (by simp)
      go_wp2_with fail
      refine (hIsVar_any t.k t.i A t.ks.length c _).mono ?_
      rintro e w1 ⟨rfl, hb1⟩
      have E1 := Lib.hid (E0.out.keep hb1)
      clear hb1 a0 a1 a2 E0
      obtain ⟨a0, a1, a2⟩ := E1.out.cells w.heap.size t A c (by simp)
      by_cases hk : t.k = 1
      · rw [decide_eq_true hk]
        by_cases hi : t.i = x
        · have hi' : (t.i == x) = true := by simp [hi]
          have D := Lib.hid (decide_eq_true (show t.k = 1 ∧ t.i = x from ⟨hk, hi⟩))
          clear hk hi
          go_wp2_with fail
          go_meet
          exact ⟨by rw [D.out], E1.out⟩
        · have hi' : (t.i == x) = false := by simpa using hi
          have D := Lib.hid (decide_eq_false (show ¬ (t.k = 1 ∧ t.i = x) from fun h => hi h.2))
          clear hk hi
          go_wp2_with fail
          go_meet
          exact ⟨by rw [D.out], E1.out⟩
      · rw [decide_eq_false hk]
        have D := Lib.hid (decide_eq_false (show ¬ (t.k = 1 ∧ t.i = x) from fun h => hk h.1))
        clear hk
        go_wp2_with fail
        go_meet
        exact ⟨by rw [D.out], E1.out⟩
    case rest =>
      obtain ⟨rfl, hE⟩ := hcut
      have E1 := Lib.hid hE
      clear hE E0
      by_cases h1 : t.k = 1 ∧ t.i = x
      · rw [if_pos h1] at E
        rw [decide_eq_true h1]
        clear h1
        go_wp2_with fail
        go_ret
        exact ⟨by rw [E.out]; rfl, E1.out.below⟩
      · rw [if_neg h1] at E
        rw [decide_eq_false h1]
        clear h1
        go_upto_region 3 with fail
        go_cut [17] (fun v wc => v = .bool (decide ((t.k = 7 ∨ t.k = 10) ∧ t.i = x)) ∧ Env w wc [(w.heap.size, t, A, c)])
        case first =>
          obtain ⟨a0, a1, a2⟩ := E1.out.cells w.heap.size t A c (by simp)
          go_wp2_with fail
          refine (hIsQuant_any t.k t.i A t.ks.length c _).mono ?_
          rintro e w1 ⟨rfl, hb1⟩
          have E2 := Lib.hid (E1.out.keep hb1)
          clear hb1 a0 a1 a2 E1
          obtain ⟨a0, a1, a2⟩ := E2.out.cells w.heap.size t A c (by simp)
          by_cases hk : t.k = 7 ∨ t.k = 10
          · rw [decide_eq_true hk]
            by_cases hi : t.i = x
            · have hi' : (t.i == x) = true := by simp [hi]
              have D := Lib.hid (decide_eq_true (show (t.k = 7 ∨ t.k = 10) ∧ t.i = x from ⟨hk, hi⟩))
              clear hk hi
              go_wp2_with fail
              go_meet
              exact ⟨by rw [D.out], E2.out⟩
            · have hi' : (t.i == x) = false := by simpa using hi
              have D := Lib.hid (decide_eq_false (show ¬ ((t.k = 7 ∨ t.k = 10) ∧ t.i = x) from fun h => hi h.2))
              clear hk hi
              go_wp2_with fail
              go_meet
              exact ⟨by rw [D.out], E2.out⟩
          · rw [decide_eq_false hk]
            have D := Lib.hid (decide_eq_false (show ¬ ((t.k = 7 ∨ t.k = 10) ∧ t.i = x) from fun h => hk h.1))
            clear hk
            go_wp2_with fail
            go_meet
            exact ⟨by rw [D.out], E2.out⟩
        case rest =>
          obtain ⟨rfl, hE⟩ := hcut
          have E2 := Lib.hid hE
          clear hE E1
          by_cases h1 : (t.k = 7 ∨ t.k = 10) ∧ t.i = x
          · rw [if_pos h1] at E
            rw [decide_eq_true h1]
            clear h1
            go_wp2_with fail
            go_ret
            exact ⟨by rw [E.out]; rfl, E2.out.below⟩
          · rw [if_neg h1] at E
            rw [decide_eq_false h1]
            clear h1
            obtain ⟨a0, a1, a2⟩ := E2.out.cells w.heap.size t A c (by simp)
            go_wp2_with fail
            clear a0 a1 a2
            go_loopw [5, 29] (fun s i wr => ∃ m : Nat, m ≤ t.ks.length ∧ i = .int .i64 (m : Int) ∧ s = .int .i64 (occNL x (t.ks.take m) : Int) ∧ Env w wr [(w.heap.size, t, A, c)]) (fun _ i _ => t.ks.length - (intOf i).toNat)
            case atStart => exact ⟨0, Nat.zero_le _, rfl, by simp [occNL_nil], E2.out⟩
            case round =>
              obtain ⟨m, hm, rfl, rfl, hE⟩ := hrel
              have E3 := Lib.hid hE
              clear hE E2
              by_cases hlt : m < t.ks.length
              · obtain ⟨b, o, Aq, cq, rfl, hltb, p0, p1, p2, hq⟩ := (E3.out.tree w.heap.size t A c (by simp)).kid m hlt
                have S := Lib.hid (occNL_take x t.ks m hlt)
                have kz := kid_sz t m hlt
                have bd : occNL x (t.ks.take m) ≤ 1000 := by have := occNL_le x (t.ks.take m); have := szL_take_le t.ks m; omega
                have bq := occN_le x t.ks[m]
                obtain ⟨q, hqq⟩ : ∃ q, q = t.ks[m] := ⟨_, rfl⟩
                rw [← hqq] at p0 p1 p2 hq kz S bq
                clear hqq
                obtain ⟨s, hs⟩ : ∃ s, s = occNL x (t.ks.take m) := ⟨_, rfl⟩
                rw [← hs] at S bd ⊢
                clear hs
                have E4 := Lib.hid (E3.out.push hq)
                clear hq
                go_wp2_with fail
                refine (IH.out q Aq cq _ (by omega) (by omega) (by exact E4.out.tree wr.heap.size q Aq cq (by simp))).mono ?_
                rintro e w5 ⟨rfl, hb5⟩
                have E5 := Lib.hid (show Env w w5 [(w.heap.size, t, some ⟨b, o, none⟩, c)] from ⟨(E4.out.keep hb5).below, fun y hy => (E4.out.keep hb5).bts y (by simp at hy ⊢; exact .inr hy)⟩)
                clear hb5 p0 p1 p2
                go_wp2_with fail
                go_roundw
                case rel => exact ⟨m + 1, by omega, by go_num, by rw [S.out]; go_num, E5.out⟩
                case measure => simp [intOf]; omega
              · obtain rfl : m = t.ks.length := by omega
                rw [List.take_length]
                go_wp2_with fail
                go_ret
                exact ⟨by rw [E.out]; rfl, E3.out.below⟩
end Go.Proofs.YtgnfbhemkombaaaGreat
namespace Go.Proofs.YtgnfbhemkombaaaGreat
open Go.RowKit
set_option linter.unusedVariables false
set_option linter.unusedSimpArgs false
/-- what fillFourth answers, whatever the parts are -/
def fill4R (a t : Tr) (x : Int) : Tr × Nat :=
  if 1000 < 2 + a.sz + (a.sz + occN x a * (t.sz - 1)) then (zeroT, 20) else if (eachR a [(x, t)]).2 ≠ 0 then (zeroT, (eachR a [(x, t)]).2) else (impT (allT x a) (eachR a [(x, t)]).1, 0)
theorem FrT.own {X : Nat → Prop} {W : World} {t : Tr} {A : Option Addr} {c lo hi : Nat} (h : OwnT W lo hi t A c) (hh : hi ≤ W.heap.size) (hX : ∀ k, X k → k < lo) (hf : t.fit) : FrT X W t A c :=
  fun W' h1 h2 => (OwnT.same t (fun k k1 k2 => h1 k (by omega) (fun hx => by have := hX k hx; omega)) h).isT t (by omega) hf
theorem FE.pushF {w W : World} {A : Option Addr} {n c : Nat} {x : Int} {bs : List (Nat × Tr × Option Addr × Nat)} {ts : List (Tr × Option Addr × Nat)} (h : FE w W A n c x bs ts) {t : Tr} {B : Option Addr} {cb : Nat} (ht : FrT (RX w) W t B cb) : FE w (W.alloc (.cells #[.int .i64 t.k, .int .i64 t.i, .slice B t.ks.length cb] 24)) A n c x ((W.heap.size, t, B, cb) :: bs) ts := by
  have h' := h.keep (alB W (.cells #[.int .i64 t.k, .int .i64 t.i, .slice B t.ks.length cb] 24))
  refine ⟨h'.pb, h'.rb, fun q hq => ?_, h'.fts, h'.bel, h'.size⟩
  rcases List.mem_cons.1 hq with rfl | hq
  · exact ⟨h.size, Box3.new W _ _ _, ht.keep (alB W _)⟩
  · exact h'.bts q hq
theorem isT_zero4 (W : World) (B : Nat) : IsT W B zeroT none 0 := IsT.mk (Nat.le_refl _) (by simp [zeroT, Tr.ks, Cap]) fun m hm => by simp [zeroT, Tr.ks] at hm
theorem fill_zero {w W : World} {A : Option Addr} {n c : Nat} {x : Int} {bs : List (Nat × Tr × Option Addr × Nat)} {ts : List (Tr × Option Addr × Nat)} (h : FE w W A n c x bs ts) (f : Nat) (u v y : Value) :
    FillP w zeroT f (.returned (.tuple #[.agg #[.int .i64 0, .int .i64 0, .slice none 0 0], .int .i64 (f : Int)])) (((W.setCell ⟨w.heap.size + 1, 0, none⟩ u).setCell ⟨w.heap.size + 1, 1, none⟩ v).setCell ⟨w.heap.size + 1, 2, none⟩ y) :=
  ⟨none, 0, rfl, isT_zero4 _ _, (h.set u v y).bel⟩
set_option maxHeartbeats 8000000 in
set_option maxRecDepth 100000 in
theorem fill4_any (a t : Tr) (A : Option Addr) (c : Nat) (x : Int) (w : World) (sa : a.sz ≤ 1000) (st : t.sz ≤ 1000) (hl : IsT w w.heap.size (.node 0 0 [a, t]) A c) :
    Calls Tryz.prog 40 #[.agg #[.slice A 2 c, .int .i64 x]] w (FillP w (fill4R a t x).1 (fill4R a t x).2) := by
  obtain ⟨g, o, Aa, ca, At, ct, rfl, hg, ⟨ha, ht⟩, ⟨ta, tt⟩, hcn⟩ := kids2 hl
  have F0 := Lib.hid (FE.start w (some ⟨g, o, none⟩) 2 c x)
  have F1 := Lib.hid F0.out.drew
  have Ha := Lib.hid ha
  have Ht := Lib.hid ht
  have Ta := Lib.hid ta
  have Tt := Lib.hid tt
  have R := Lib.hid (show fill4R a t x = if 1000 < 2 + a.sz + (a.sz + occN x a * (t.sz - 1)) then (zeroT, 20) else if (eachR a [(x, t)]).2 ≠ 0 then (zeroT, (eachR a [(x, t)]).2) else (impT (allT x a) (eachR a [(x, t)]).1, 0) from rfl)
  have oc := occN_le x a
  have tp := sz_pos t
  clear hl ha ht ta tt
  go_enter Tryz.func40, Tryz.ntmps40
  go_upto_region 1 with fail
  go_cut [4, 5] (fun p q wc => ∃ na nt, p = .pointer (some ⟨na, 0, none⟩) ∧ q = .pointer (some ⟨nt, 0, none⟩) ∧ FE w wc (some ⟨g, o, none⟩) 2 c x [(na, a, Aa, ca), (nt, t, At, ct)] [])
  case first =>
    go_region_held3 (fun w' => w'.cell? ⟨w.heap.size, 0, none⟩ = some (.slice (some ⟨g, o, none⟩) 2 c) ∧ ((w'.cell? ⟨g, o, none⟩ = some (.int .i64 a.k) ∧ w'.cell? ⟨g, o + 1, none⟩ = some (.int .i64 a.i) ∧ w'.cell? ⟨g, o + 2, none⟩ = some (.slice Aa a.ks.length ca)) ∧ (w'.cell? ⟨g, o + 3, none⟩ = some (.int .i64 t.k) ∧ w'.cell? ⟨g, o + 3 + 1, none⟩ = some (.int .i64 t.i) ∧ w'.cell? ⟨g, o + 3 + 2, none⟩ = some (.slice At t.ks.length ct))))
      (first | exact ⟨F1.out.pb.cells.1, Ha.out.keep F1.out.bel hg, Ht.out.keep F1.out.bel hg⟩ | exact ⟨(F1.out.keep (alB _ _)).pb.cells.1, Ha.out.keep (F1.out.keep (alB _ _)).bel hg, Ht.out.keep (F1.out.keep (alB _ _)).bel hg⟩ | exact ⟨((F1.out.keep (alB _ _)).keep (alB _ _)).pb.cells.1, Ha.out.keep ((F1.out.keep (alB _ _)).keep (alB _ _)).bel hg, Ht.out.keep ((F1.out.keep (alB _ _)).keep (alB _ _)).bel hg⟩)
      (fail)
    all_goals go_wp2_with fail
    all_goals go_meet
    all_goals first
      | exact ⟨_, _, rfl, rfl, ((F0.out.push Ta.out (w.heap.size + 1 + 1) (by simp)).push Tt.out (w.heap.size + 1 + 1 + 1) (by simp)).drew.perm (by simp)⟩
      | exact ⟨_, _, rfl, rfl, ((F0.out.push Tt.out (w.heap.size + 1 + 1) (by simp)).push Ta.out (w.heap.size + 1 + 1 + 1) (by simp)).drew.perm (by simp)⟩
  case rest =>
    obtain ⟨na, nt, rfl, rfl, hE⟩ := hcut
    have E := Lib.hid hE.drew
    clear hE F0 F1 Ha Ht Ta Tt
    obtain ⟨oN, hoN⟩ : ∃ oN, oN = occN x a := ⟨_, rfl⟩
    have mb : oN * (t.sz - 1) ≤ 1000 * 1000 := Nat.mul_le_mul (by omega) (by omega)
    obtain ⟨pr, hpr⟩ : ∃ pr, pr = oN * (t.sz - 1) := ⟨_, rfl⟩
    have w1 : IntKind.i64.wrap ((t.sz : Int) - 1) = ((t.sz - 1 : Nat) : Int) := by rw [IntKind.wrap_i64]; omega
    have w2 : IntKind.i64.wrap ((oN : Int) * ((t.sz - 1 : Nat) : Int)) = (pr : Int) := by rw [hpr, ← Int.natCast_mul, IntKind.wrap_i64]; omega
    have w3 : IntKind.i64.wrap ((a.sz : Int) + (pr : Int)) = ((a.sz + pr : Nat) : Int) := by rw [IntKind.wrap_i64]; omega
    rw [← hoN, ← hpr] at R
    have HO := Lib.hid hoN
    have pb : pr ≤ 1000 * 1000 := by omega
    clear hoN hpr mb oc
    go_upto_region 2 with fail
    go_cut [6] (fun v wc => v = .int .i64 ((a.sz + pr : Nat) : Int) ∧ FE w wc (some ⟨g, o, none⟩) 2 c x [(na, a, Aa, ca), (nt, t, At, ct)] [])
    case first =>
      obtain ⟨za, hza⟩ : ∃ za, za = a.sz := ⟨_, rfl⟩
      obtain ⟨zt, hzt⟩ : ∃ zt, zt = t.sz := ⟨_, rfl⟩
      have SA := Lib.hid (fun (W : World) (h : FE w W (some ⟨g, o, none⟩) 2 c x [(na, a, Aa, ca), (nt, t, At, ct)] []) => size_small a Aa ca W (h.fr na a Aa ca (by simp)).isT sa)
      have ST := Lib.hid (fun (W : World) (h : FE w W (some ⟨g, o, none⟩) 2 c x [(na, a, Aa, ca), (nt, t, At, ct)] []) => size_small t At ct W (h.fr nt t At ct (by simp)).isT st)
      have SO := Lib.hid (fun (W : World) (h : FE w W (some ⟨g, o, none⟩) 2 c x [(na, a, Aa, ca), (nt, t, At, ct)] []) => occur_any x a.sz a Aa ca W (Nat.le_refl _) sa (h.fr na a Aa ca (by simp)).isT)
      rw [← HO.out] at SO
      rw [← hza] at SA w3
      rw [← hzt] at ST w1 w2
      have HZ := Lib.hid hza
      clear HO R hza hzt sa st tp pb
      go_region_held3 (fun w' => w'.cell? ⟨w.heap.size, 1, none⟩ = some (.int .i64 x) ∧ ((w'.cell? ⟨na, 0, none⟩ = some (.int .i64 a.k) ∧ w'.cell? ⟨na, 1, none⟩ = some (.int .i64 a.i) ∧ w'.cell? ⟨na, 2, none⟩ = some (.slice Aa a.ks.length ca)) ∧ (w'.cell? ⟨nt, 0, none⟩ = some (.int .i64 t.k) ∧ w'.cell? ⟨nt, 1, none⟩ = some (.int .i64 t.i) ∧ w'.cell? ⟨nt, 2, none⟩ = some (.slice At t.ks.length ct))))
        (exact ⟨E.out.pb.cells.2, E.out.cells na a Aa ca (by simp), E.out.cells nt t At ct (by simp)⟩)
        (first
          | (go_at_call 79; (first | with_reducible refine (SA.out _ E.out).mono ?_ | with_reducible refine (ST.out _ E.out).mono ?_); rintro e5 w5 ⟨rfl, hb5⟩; replace E := Lib.hid (E.out.keep hb5); clear hb5)
          | (go_at_call 80; with_reducible refine (SO.out _ E.out).mono ?_; rintro e5 w5 ⟨rfl, hb5⟩; replace E := Lib.hid (E.out.keep hb5); clear hb5))
      all_goals go_wp2_with fail
      all_goals go_meet
      all_goals exact ⟨by rw [← HZ.out]; go_num, E.out⟩
    case rest =>
      obtain ⟨rfl, hE⟩ := hcut
      have E := Lib.hid hE
      clear hE w1 w2 w3
      obtain ⟨s, hs⟩ : ∃ s, s = a.sz + pr := ⟨_, rfl⟩
      rw [← hs] at R ⊢
      have sb : s ≤ 1000 * 1000 + 1000 := by omega
      clear hs pb HO tp
      have SA := Lib.hid (fun (W : World) (h : FE w W (some ⟨g, o, none⟩) 2 c x [(na, a, Aa, ca), (nt, t, At, ct)] []) => size_small a Aa ca W (h.fr na a Aa ca (by simp)).isT sa)
      obtain ⟨za, hza⟩ : ∃ za, za = a.sz := ⟨_, rfl⟩
      rw [← hza] at SA R sa
      clear hza
      obtain ⟨z0, z1, z2⟩ := E.out.cells na a Aa ca (by simp)
      go_wp2_with fail
      refine (SA.out _ E.out).mono ?_
      rintro e5 w5 ⟨rfl, hb5⟩
      replace E := Lib.hid (E.out.keep hb5)
      clear hb5 z0 z1 z2 SA
      by_cases hm : 1000 < 2 + za + s
      · rw [if_pos hm] at R
        have hm' : (1000 : Int) < 2 + (za : Int) + (s : Int) := by omega
        have f0 := E.out.froz 0
        have f1 := E.out.froz 1
        have f2 := E.out.froz 2
        obtain ⟨u5, v5, y5, hr5⟩ := E.out.rb
        obtain ⟨s0, s1, s2⟩ := hr5.cells
        clear hm hr5
        go_wp2_with fail
        obtain ⟨q0, q1, q2⟩ := (E.out.res (.int .i64 0) (.int .i64 0) (.slice none 0 0)).cells
        refine bodyPost_ret (v := .tuple #[.agg #[.int .i64 0, .int .i64 0, .slice none 0 0], .int .i64 20]) (by simp [results, Tryz.results40, go_sem, q0, q1, q2]) rfl ?_
        rw [R.out]
        exact fill_zero E.out 20 _ _ _
      · rw [if_neg hm] at R
        have hm' : ¬ (1000 : Int) < 2 + (za : Int) + (s : Int) := by omega
        obtain ⟨z0, z1, z2⟩ := E.out.cells na a Aa ca (by simp)
        obtain ⟨y0, y1, y2⟩ := E.out.cells nt t At ct (by simp)
        obtain ⟨_, x1⟩ := E.out.pb.cells
        clear hm
        go_wp2_with fail
        refine (sput_any a Aa ca x t At ct _ (by exact (E.out.fr na a Aa ca (by simp)).isT) (by exact (E.out.fr nt t At ct (by simp)).isT)).mono ?_
        rintro e6 w6 ⟨hb6, A6, c6, ho6, rfl⟩
        have E6 := Lib.hid ((E.out.keep hb6).pushF (FrT.own ho6 (Nat.le_refl _) (fun k hk => E.out.hX k hk) (eachR_fit _ _)))
        clear hb6 ho6 z0 z1 z2 y0 y1 y2 x1 E
        obtain ⟨b, f, hbf⟩ : ∃ b f, eachR a [(x, t)] = (b, f) := ⟨_, _, rfl⟩
        rw [hbf] at R E6 ⊢
        clear hbf
        simp only at R E6 ⊢
        by_cases hf : f = 0
        · subst hf
          rw [if_neg (by simp)] at R
          have E := Lib.hid E6.out.drew
          clear E6
          go_wp2_with fail
          have f0 := E.out.froz 0
          have f1 := E.out.froz 1
          have f2 := E.out.froz 2
          go_region_held3 (fun w' => w'.cell? ⟨w.heap.size, 1, none⟩ = some (.int .i64 x) ∧ ((w'.cell? ⟨na, 0, none⟩ = some (.int .i64 a.k) ∧ w'.cell? ⟨na, 1, none⟩ = some (.int .i64 a.i) ∧ w'.cell? ⟨na, 2, none⟩ = some (.slice Aa a.ks.length ca)) ∧ (w'.cell? ⟨w6.heap.size, 0, none⟩ = some (.int .i64 b.k) ∧ w'.cell? ⟨w6.heap.size, 1, none⟩ = some (.int .i64 b.i) ∧ w'.cell? ⟨w6.heap.size, 2, none⟩ = some (.slice A6 b.ks.length c6))))
            (first | exact ⟨E.out.pb.cells.2, E.out.cells na a Aa ca (by simp), E.out.cells w6.heap.size b A6 c6 (by simp)⟩ | exact ⟨(E.out.set _ _ _).pb.cells.2, (E.out.set _ _ _).cells na a Aa ca (by simp), (E.out.set _ _ _).cells w6.heap.size b A6 c6 (by simp)⟩)
            (first
              | (go_at_call 82; refine (all_any (RX w) x a Aa ca _ E.out.hX (E.out.fr na a Aa ca (by simp))).mono ?_; rintro e7 w7 ⟨R0, r0, rfl, h7, hb7⟩; replace E := Lib.hid ((E.out.keep hb7).more h7); have f3 := E.out.froz 0; have f4 := E.out.froz 1; have f5 := E.out.froz 2; obtain ⟨u5, v5, y5, hr5⟩ := E.out.rb; obtain ⟨s0, s1, s2⟩ := hr5.cells; clear hb7 h7 hr5)
              | (go_at_call 76; refine (imp_any (RX w) (allT x a) b R0 A6 r0 c6 _ E.out.hX (E.out.ft (allT x a) R0 r0 (by simp)) (E.out.fr w6.heap.size b A6 c6 (by simp))).mono ?_; rintro e8 w8 ⟨R1, r1, rfl, h8, hb8⟩; replace E := Lib.hid ((E.out.keep hb8).more h8); have f6 := E.out.froz 0; have f7 := E.out.froz 1; have f8 := E.out.froz 2; obtain ⟨u6, v6, y6, hr6⟩ := E.out.rb; obtain ⟨s3, s4, s5⟩ := hr6.cells; clear hb8 h8 hr6))
          all_goals go_wp2_with fail
          all_goals
            obtain ⟨q0, q1, q2⟩ := (E.out.res (.int .i64 (impT (allT x a) b).k) (.int .i64 (impT (allT x a) b).i) (.slice R1 (impT (allT x a) b).ks.length r1)).cells
            refine bodyPost_ret (v := .tuple #[.agg #[.int .i64 (impT (allT x a) b).k, .int .i64 (impT (allT x a) b).i, .slice R1 (impT (allT x a) b).ks.length r1], .int .i64 0]) (by simp [results, Tryz.results40, go_sem, q0, q1, q2]) rfl ?_
            rw [R.out]
            exact ⟨R1, r1, rfl, ((E.out.ft (impT (allT x a) b) R1 r1 (by simp)).set3 rfl _ _ _).isT, (E.out.set _ _ _).bel⟩
        · rw [if_pos hf] at R
          have hf' : ((f : Int) != 0) = true := by rw [bne_iff_ne]; omega
          have f0 := E6.out.froz 0
          have f1 := E6.out.froz 1
          have f2 := E6.out.froz 2
          obtain ⟨u5, v5, y5, hr5⟩ := E6.out.rb
          obtain ⟨s0, s1, s2⟩ := hr5.cells
          clear hf hr5
          go_wp2_with fail
          obtain ⟨q0, q1, q2⟩ := (E6.out.res (.int .i64 0) (.int .i64 0) (.slice none 0 0)).cells
          refine bodyPost_ret (v := .tuple #[.agg #[.int .i64 0, .int .i64 0, .slice none 0 0], .int .i64 (f : Int)]) (by simp [results, Tryz.results40, go_sem, q0, q1, q2]) rfl ?_
          rw [R.out]
          exact fill_zero E6.out f _ _ _
end Go.Proofs.YtgnfbhemkombaaaGreat
namespace Go.Proofs.YtgnfbhemkombaaaGreat
open Go.RowKit
set_option linter.unusedVariables false
set_option linter.unusedSimpArgs false
theorem list_one {l : List Tr} (h : l.length = 1) : ∃ a, l = [a] := by
  match l, h with
  | [a], _ => exact ⟨a, rfl⟩
theorem list_two {l : List Tr} (h : l.length = 2) : ∃ a b, l = [a, b] := by
  match l, h with
  | [a, b], _ => exact ⟨a, b, rfl⟩
theorem list_three {l : List Tr} (h : l.length = 3) : ∃ a b d, l = [a, b, d] := by
  match l, h with
  | [a, b, d], _ => exact ⟨a, b, d, rfl⟩
theorem list_four {l : List Tr} (h : l.length = 4) : ∃ a b d e, l = [a, b, d, e] := by
  match l, h with
  | [a, b, d, e], _ => exact ⟨a, b, d, e, rfl⟩
/-- does the side condition of schema n hold -/
def sideV (n : Nat) (l : List Tr) (x : Int) : Bool :=
  match n, l with
  | 4, [a, t] => ffB x t a
  | 5, [a, _] => nfB x a
  | 7, [a, b, d, e] => swpT a b (varsT a ||| varsT b) d e true
  | _, _ => true
/-- the instance of schema n, with its error -/
def fillV (n : Nat) (l : List Tr) (x : Int) : Tr × Nat :=
  match n, l with
  | 1, [a, b] => (impT a (impT b a), 0)
  | 2, [a, b, d] => (impT (impT a (impT b d)) (impT (impT a b) (impT a d)), 0)
  | 3, [a, b] => (impT (impT (notT a) (notT b)) (impT b a), 0)
  | 4, [a, t] => fill4R a t x
  | 5, [a, b] => (impT (allT x (impT a b)) (impT a (allT x b)), 0)
  | 6, [a] => (eqT a a, 0)
  | 7, [a, b, d, e] => (impT (eqT a b) (impT d e), 0)
  | _, _ => (zeroT, 0)
theorem sideK_any (n : Nat) (h1 : 1 ≤ n) (h7 : n ≤ 7) (l : List Tr) (hn : l.length = (sortsL n).length) (hr : ∀ q ∈ l, rightN q = 0) (A : Option Addr) (c : Nat) (x : Int) (w : World) (hl : IsT w w.heap.size (.node 0 0 l) A c) :
    Calls Tryz.prog (sideF n) #[.agg #[.slice A l.length c, .int .i64 x]] w fun e w' => e = .returned (.bool (sideV n l x)) ∧ Below w.heap.size w w' := by
  have hk : n = 1 ∨ n = 2 ∨ n = 3 ∨ n = 4 ∨ n = 5 ∨ n = 6 ∨ n = 7 := by omega
  rcases hk with rfl | rfl | rfl | rfl | rfl | rfl | rfl
  · obtain ⟨a, b, rfl⟩ := list_two hn; exact always_any A _ c x w
  · obtain ⟨a, b, d, rfl⟩ := list_three hn; exact always_any A _ c x w
  · obtain ⟨a, b, rfl⟩ := list_two hn; exact always_any A _ c x w
  · obtain ⟨a, b, rfl⟩ := list_two hn; exact side4_any a b A c x w hl
  · obtain ⟨a, b, rfl⟩ := list_two hn; exact side5_any a b A c x w hl
  · obtain ⟨a, rfl⟩ := list_one hn; exact always_any A _ c x w
  · obtain ⟨a, b, d, e, rfl⟩ := list_four hn
    exact side7_any a b d e A c x w (hr a (by simp)) (hr b (by simp)) (hr d (by simp)) (hr e (by simp)) hl
theorem fillK_any (n : Nat) (h1 : 1 ≤ n) (h7 : n ≤ 7) (l : List Tr) (hn : l.length = (sortsL n).length) (hs : ∀ q ∈ l, q.sz ≤ 1000) (A : Option Addr) (c : Nat) (x : Int) (w : World) (hl : IsT w w.heap.size (.node 0 0 l) A c) :
    Calls Tryz.prog (fillF n) #[.agg #[.slice A l.length c, .int .i64 x]] w (FillP w (fillV n l x).1 (fillV n l x).2) := by
  have hk : n = 1 ∨ n = 2 ∨ n = 3 ∨ n = 4 ∨ n = 5 ∨ n = 6 ∨ n = 7 := by omega
  rcases hk with rfl | rfl | rfl | rfl | rfl | rfl | rfl
  · obtain ⟨a, b, rfl⟩ := list_two hn; exact fill1_any a b A c x w hl
  · obtain ⟨a, b, d, rfl⟩ := list_three hn; exact fill2_any a b d A c x w hl
  · obtain ⟨a, b, rfl⟩ := list_two hn; exact fill3_any a b A c x w hl
  · obtain ⟨a, b, rfl⟩ := list_two hn; exact fill4_any a b A c x w (hs a (by simp)) (hs b (by simp)) hl
  · obtain ⟨a, b, rfl⟩ := list_two hn; exact fill5_any a b A c x w hl
  · obtain ⟨a, rfl⟩ := list_one hn; exact fill6_any a A c x w hl
  · obtain ⟨a, b, d, e, rfl⟩ := list_four hn; exact fill7_any a b d e A c x w hl
end Go.Proofs.YtgnfbhemkombaaaGreat
namespace Go.Proofs.YtgnfbhemkombaaaGreat
open Go.RowKit
set_option linter.unusedVariables false
set_option linter.unusedSimpArgs false
/-- what Make of the code answers -/
def makeV (k : Int) (l : List Tr) (x : Int) : Tr × Nat :=
  if ¬ (1 ≤ k ∧ k ≤ 7) then (zeroT, 70) else
  if faultN l.length (sortsL k.toNat).length (decide (k.toNat = 4 ∨ k.toNat = 5)) x (sortedN l (sortsL k.toNat)) ≠ 0 then (zeroT, faultN l.length (sortsL k.toNat).length (decide (k.toNat = 4 ∨ k.toNat = 5)) x (sortedN l (sortsL k.toNat))) else
  if sideV k.toNat l x = false then (zeroT, 72) else
  if (fillV k.toNat l x).2 ≠ 0 then (zeroT, (fillV k.toNat l x).2) else atN (fillV k.toNat l x).1 []
theorem faultN_zero {n m r : Nat} {nm : Bool} {x : Int} (h : faultN n m nm x r = 0) : n = m ∧ 0 ≤ x ∧ x ≤ 63 ∧ r = 0 := by
  unfold faultN at h
  by_cases hc : n ≠ m ∨ x < 0 ∨ 63 < x ∨ (x ≠ 0 ∧ nm = false)
  · rw [if_pos hc] at h; omega
  · rw [if_neg hc] at h
    refine ⟨?_, ?_, ?_, h⟩
    · exact Classical.byContradiction fun hh => hc (.inl hh)
    · exact Classical.byContradiction fun hh => hc (.inr (.inl (by omega)))
    · exact Classical.byContradiction fun hh => hc (.inr (.inr (.inl (by omega))))
theorem sortedN_zero {ks : List Tr} {cs : List Bool} (h : sortedN ks cs = 0) : firstL ks = 0 := by
  unfold sortedN at h
  by_cases hc : firstL ks ≠ 0
  · rw [if_pos hc] at h; exact h
  · exact Classical.byContradiction hc
/-- what stands in memory while Make works -/
structure MK (w W : World) (l : List Tr) (A : Option Addr) (c : Nat) (x : Int) : Prop where
  bel : Below w.heap.size w W
  pb : BoxP W w.heap.size A l.length c x
  rb : Box3 W (w.heap.size + 1) (.int .i64 0) (.int .i64 0) (.slice none 0 0)
theorem MK.keep {w W W' : World} {l : List Tr} {A : Option Addr} {c : Nat} {x : Int} (h : MK w W l A c x) (hb : Below W.heap.size W W') : MK w W' l A c x := ⟨bl_trans h.bel hb, h.pb.keep hb h.pb.lt, h.rb.keep hb h.rb.lt⟩
theorem MK.start (w : World) (l : List Tr) (A : Option Addr) (c : Nat) (x : Int) : MK w ((w.alloc (.cells #[.slice A l.length c, .int .i64 x] 32)).alloc (.cells #[.int .i64 0, .int .i64 0, .slice none 0 0] 24)) l A c x := by
  refine ⟨bl_trans (alB _ _) (alB _ _), (BoxP.new w A l.length c x).keep (alB _ _) (BoxP.new w A l.length c x).lt, ?_⟩
  have h := Box3.new (w.alloc (.cells #[.slice A l.length c, .int .i64 x] 32)) (.int .i64 0) (.int .i64 0) (.slice none 0 0)
  simpa using h
set_option maxHeartbeats 8000000 in
set_option maxRecDepth 100000 in
theorem make_any (k : Int) (l : List Tr) (A : Option Addr) (c : Nat) (x : Int) (w : World) (hl : IsT w w.heap.size (.node 0 0 l) A c) :
    Calls Tryz.prog 10 #[.int .i64 k, .agg #[.slice A l.length c, .int .i64 x]] w (AnsPost w (makeV k l x)) := by
  have M0 := Lib.hid (MK.start w l A c x)
  have HL := Lib.hid hl
  clear hl
  go_enter Tryz.func10, Tryz.ntmps10
  go_wp2_with fail
  refine (numbered_any k _).mono ?_
  rintro e w1 ⟨hb1, hcase⟩
  have M1 := Lib.hid (M0.out.keep hb1)
  clear hb1 M0
  rcases hcase with ⟨nk, rfl⟩ | ⟨n, S, vf, vc, hkn, h1, h7, hS, rfl⟩
  · have D := Lib.hid (show makeV k l x = (zeroT, 70) from if_pos nk)
    have M2 := Lib.hid (M1.out.keep (alB w1 (.cells #[.int .i64 0, .slice none 0 0, .bool false, .nilFunc, .nilFunc, .nilFunc] 50)))
    have f0 := M2.out.rb.frozen 0
    have f1 := M2.out.rb.frozen 1
    have f2 := M2.out.rb.frozen 2
    obtain ⟨n0, n1, n2⟩ := M2.out.rb.cells
    clear nk
    go_wp2_with fail
    obtain ⟨x0, x1, x2⟩ := (M2.out.rb.setall (.int .i64 0) (.int .i64 0) (.slice none 0 0)).cells
    exact bodyPost_ret (v := .tuple #[.agg #[.int .i64 0, .int .i64 0, .slice none 0 0], .int .i64 70]) (by simp [results, Tryz.results10, go_sem, x0, x1, x2]) rfl (ans_zero D.out M2.out.bel (Nat.le_succ _))
  · have HK := Lib.hid (And.intro h1 h7)
    subst hkn
    have DV := Lib.hid (show makeV (n : Int) l x = if faultN l.length (sortsL n).length (decide (n = 4 ∨ n = 5)) x (sortedN l (sortsL n)) ≠ 0 then (zeroT, faultN l.length (sortsL n).length (decide (n = 4 ∨ n = 5)) x (sortedN l (sortsL n))) else
        if sideV n l x = false then (zeroT, 72) else if (fillV n l x).2 ≠ 0 then (zeroT, (fillV n l x).2) else atN (fillV n l x).1 [] from if_neg (fun h => h ⟨by omega, by omega⟩))
    have HS := Lib.hid hS.1
    have SK := Lib.hid (fun (hn : l.length = (sortsL n).length) (hr : ∀ q ∈ l, rightN q = 0) => sideK_any n h1 h7 l hn hr A c x)
    have FK := Lib.hid (fun (hn : l.length = (sortsL n).length) (hs : ∀ q ∈ l, q.sz ≤ 1000) => fillK_any n h1 h7 l hn hs A c x)
    obtain ⟨cs, hcs⟩ : ∃ cs, cs = sortsL n := ⟨_, rfl⟩
    obtain ⟨nm, hnm⟩ : ∃ nm, nm = decide (n = 4 ∨ n = 5) := ⟨_, rfl⟩
    obtain ⟨ff, hff⟩ : ∃ ff, ff = fillF n := ⟨_, rfl⟩
    obtain ⟨sf, hsf⟩ : ∃ sf, sf = sideF n := ⟨_, rfl⟩
    rw [← hcs] at DV HS SK FK ⊢
    rw [← hnm] at DV ⊢
    rw [← hff] at FK ⊢
    rw [← hsf] at SK ⊢
    have HP := Lib.hid (show (ff = 35 ∧ sf = 36) ∨ (ff = 38 ∧ sf = 36) ∨ (ff = 39 ∧ sf = 36) ∨ (ff = 40 ∧ sf = 41) ∨ (ff = 43 ∧ sf = 44) ∨ (ff = 46 ∧ sf = 36) ∨ (ff = 47 ∧ sf = 48) by
      have hk : n = 1 ∨ n = 2 ∨ n = 3 ∨ n = 4 ∨ n = 5 ∨ n = 6 ∨ n = 7 := by omega
      rw [hff, hsf]
      rcases hk with rfl | rfl | rfl | rfl | rfl | rfl | rfl <;> simp [fillF, sideF])
    clear h1 h7 hS hcs hnm hff hsf
    have R2 := Lib.hid (Box6.new w1 (.int .i64 (n : Int)) (.slice S cs.length cs.length) (.bool nm) (.func (.func ff) #[] #[]) (.func (.func sf) #[] #[]) (.func (.func vf) #[] vc))
    have b2 := Lib.hid (alB w1 (.cells #[.int .i64 (n : Int), .slice S cs.length cs.length, .bool nm, .func (.func ff) #[] #[], .func (.func sf) #[] #[], .func (.func vf) #[] vc] 50))
    have M2 := Lib.hid (M1.out.keep b2.out)
    have S2 := Lib.hid (sorts_keep HS.out b2.out b2.out.size)
    obtain ⟨y0, y1, y2, y3, y4, y5⟩ := R2.out.cells
    obtain ⟨p0, p1⟩ := M2.out.pb.cells
    go_wp2_with fail
    refine (rowFault_any (.node 0 0 l) A S c ff sf vf cs nm vc (n : Int) x _ (IsT.up HL.out M2.out.bel) S2.out).mono ?_
    rintro e w3 ⟨rfl, hb3⟩
    have M3 := Lib.hid (M2.out.keep hb3)
    have R3 := Lib.hid (R2.out.keep hb3 R2.out.lt)
    clear hb3 b2 M2 S2 R2 y0 y1 y2 y3 y4 y5 p0 p1 M1
    rw [show faultN (Tr.node 0 0 l).ks.length cs.length nm x (sortedN (Tr.node 0 0 l).ks cs) = faultN l.length cs.length nm x (sortedN l cs) from rfl]
    obtain ⟨f, hf⟩ : ∃ f, f = faultN l.length cs.length nm x (sortedN l cs) := ⟨_, rfl⟩
    rw [← hf] at DV ⊢
    have HF := Lib.hid hf
    clear hf
    obtain ⟨y0, y1, y2, y3, y4, y5⟩ := R3.out.cells
    obtain ⟨p0, p1⟩ := M3.out.pb.cells
    by_cases h0 : f = 0
    · subst h0
      have hz := faultN_zero HF.out.symm
      have hr := firstL_zero (sortedN_zero hz.2.2.2)
      have SK2 := Lib.hid (SK.out hz.1 hr)
      have FK2 := Lib.hid (FK.out hz.1 (fun q hq => (right_shp' (hr q hq)).2.1))
      clear SK FK hz hr HF
      have hp := HP.out
      clear HP
      rcases hp with ⟨rfl, rfl⟩ | ⟨rfl, rfl⟩ | ⟨rfl, rfl⟩ | ⟨rfl, rfl⟩ | ⟨rfl, rfl⟩ | ⟨rfl, rfl⟩ | ⟨rfl, rfl⟩
      all_goals
        go_wp2_with fail
        refine (SK2.out _ (IsT.up HL.out M3.out.bel)).mono ?_
        rintro e w4 ⟨rfl, hb4⟩
        have M4 := Lib.hid (M3.out.keep hb4)
        have R4 := Lib.hid (R3.out.keep hb4 R3.out.lt)
        clear hb4 M3 R3 y0 y1 y2 y3 y4 y5 p0 p1
        obtain ⟨sv, hsv⟩ : ∃ sv, sv = sideV n l x := ⟨_, rfl⟩
        rw [← hsv] at DV ⊢
        clear hsv
        obtain ⟨y0, y1, y2, y3, y4, y5⟩ := R4.out.cells
        obtain ⟨p0, p1⟩ := M4.out.pb.cells
        have f0 := M4.out.rb.frozen 0
        have f1 := M4.out.rb.frozen 1
        have f2 := M4.out.rb.frozen 2
        obtain ⟨n0, n1, n2⟩ := M4.out.rb.cells
        cases sv with
        | false =>
          have D := Lib.hid (show makeV (n : Int) l x = (zeroT, 72) by rw [DV.out]; rfl)
          clear DV
          go_wp2_with fail
          obtain ⟨x0, x1, x2⟩ := (M4.out.rb.setall (.int .i64 0) (.int .i64 0) (.slice none 0 0)).cells
          exact bodyPost_ret (v := .tuple #[.agg #[.int .i64 0, .int .i64 0, .slice none 0 0], .int .i64 72]) (by simp [results, Tryz.results10, go_sem, x0, x1, x2]) rfl (ans_zero D.out M4.out.bel (Nat.le_succ _))
        | true =>
          go_wp2_with fail
          refine (FK2.out _ (IsT.up HL.out M4.out.bel)).mono ?_
          rintro e w5 ⟨A5, c5, rfl, ht5, hb5⟩
          have D := Lib.hid (show makeV (n : Int) l x = if (fillV n l x).2 ≠ 0 then (zeroT, (fillV n l x).2) else atN (fillV n l x).1 [] by rw [DV.out]; rfl)
          clear DV FK2 SK2
          obtain ⟨t, ht⟩ : ∃ t, t = (fillV n l x).1 := ⟨_, rfl⟩
          obtain ⟨g, hg⟩ : ∃ g, g = (fillV n l x).2 := ⟨_, rfl⟩
          rw [← ht] at ht5
          rw [← ht, ← hg] at D ⊢
          clear ht hg
          have b6 := Lib.hid (alB w5 (.cells #[.int .i64 t.k, .int .i64 t.i, .slice A5 t.ks.length c5] 24))
          have M6 := Lib.hid ((M4.out.keep hb5).keep b6.out)
          have T6 := Lib.hid (IsT.up ht5 b6.out)
          have X6 := Lib.hid (Box3.new w5 (.int .i64 t.k) (.int .i64 t.i) (.slice A5 t.ks.length c5))
          clear hb5 ht5 M4 R4 y0 y1 y2 y3 y4 y5 p0 p1 f0 f1 f2 n0 n1 n2
          have f0 := M6.out.rb.frozen 0
          have f1 := M6.out.rb.frozen 1
          have f2 := M6.out.rb.frozen 2
          obtain ⟨n0, n1, n2⟩ := M6.out.rb.cells
          obtain ⟨z0, z1, z2⟩ := X6.out.cells
          by_cases hg0 : g = 0
          · subst hg0
            have D2 := Lib.hid (show makeV (n : Int) l x = atN t [] by rw [D.out]; exact if_neg (fun h => h rfl))
            go_wp2_with fail
            refine (at_any t A5 c5 none 0 0 [] _ (by exact T6.out) rfl (Nat.zero_le _) (by exact Rd.nil _ _ _ _)).mono ?_
            rintro e w7 ⟨hb7, A7, c7, ho7, rfl⟩
            have M7 := Lib.hid (M6.out.keep hb7)
            have O7 := Lib.hid ho7
            clear hb7 ho7 f0 f1 f2 n0 n1 n2 z0 z1 z2
            have f0 := M7.out.rb.frozen 0
            have f1 := M7.out.rb.frozen 1
            have f2 := M7.out.rb.frozen 2
            obtain ⟨n0, n1, n2⟩ := M7.out.rb.cells
            obtain ⟨r, hr⟩ : ∃ r, r = atN t [] := ⟨_, rfl⟩
            rw [← hr] at D2 O7 ⊢
            clear hr
            rw [D2.out]
            have hlo := Lib.hid M6.out.rb.lt
            go_wp2_with fail
            obtain ⟨x0, x1, x2⟩ := (M7.out.rb.setall (.int .i64 r.1.k) (.int .i64 r.1.i) (.slice A7 r.1.ks.length c7)).cells
            exact bodyPost_ret (v := .tuple #[.agg #[.int .i64 r.1.k, .int .i64 r.1.i, .slice A7 r.1.ks.length c7], .int .i64 ((r.2 : Nat) : Int)]) (by simp [results, Tryz.results10, go_sem, x0, x1, x2]) rfl (by rw [D2.out]; exact ans_pass M7.out.bel O7.out (Nat.le_succ _) hlo.out)
          · have hg1 : ((g : Int) != 0) = true := by rw [bne_iff_ne]; omega
            have D2 := Lib.hid (show makeV (n : Int) l x = (zeroT, g) by rw [D.out]; exact if_pos hg0)
            clear hg0
            go_wp2_with fail
            obtain ⟨x0, x1, x2⟩ := (M6.out.rb.setall (.int .i64 0) (.int .i64 0) (.slice none 0 0)).cells
            exact bodyPost_ret (v := .tuple #[.agg #[.int .i64 0, .int .i64 0, .slice none 0 0], .int .i64 (g : Int)]) (by simp [results, Tryz.results10, go_sem, x0, x1, x2]) rfl (ans_zero D2.out M6.out.bel (Nat.le_succ _))
    · clear HP
      have h0' : ((f : Int) != 0) = true := by rw [bne_iff_ne]; omega
      have D := Lib.hid (show makeV (n : Int) l x = (zeroT, f) by rw [DV.out]; exact if_pos h0)
      clear DV h0
      have f0 := M3.out.rb.frozen 0
      have f1 := M3.out.rb.frozen 1
      have f2 := M3.out.rb.frozen 2
      obtain ⟨n0, n1, n2⟩ := M3.out.rb.cells
      go_wp2_with fail
      obtain ⟨x0, x1, x2⟩ := (M3.out.rb.setall (.int .i64 0) (.int .i64 0) (.slice none 0 0)).cells
      exact bodyPost_ret (v := .tuple #[.agg #[.int .i64 0, .int .i64 0, .slice none 0 0], .int .i64 (f : Int)]) (by simp [results, Tryz.results10, go_sem, x0, x1, x2]) rfl (ans_zero D.out M3.out.bel (Nat.le_succ _))
end Go.Proofs.YtgnfbhemkombaaaGreat
namespace Go.Proofs.YtgnfbhemkombaaaGreat
set_option linter.unusedVariables false
set_option linter.unusedSimpArgs false
/-- the side condition, as the document asks it -/
def rsideV (n : Nat) (l : List Tr) (x : Int) : Bool :=
  match n, l with
  | 4, [a, t] => ffB x t a
  | 5, [a, _] => !hasN (freeT a) x
  | 7, [a, b, d, e] => swpT a b (varsT a ||| varsT b) d e true
  | _, _ => true
/-- the instance, as the document makes it; none: it has too many nodes for sure -/
def madeV (n : Nat) (l : List Tr) (x : Int) : Option Tr :=
  match n, l with
  | 1, [a, b] => some (impT a (impT b a))
  | 2, [a, b, d] => some (impT (impT a (impT b d)) (impT (impT a b) (impT a d)))
  | 3, [a, b] => some (impT (impT (notT a) (notT b)) (impT b a))
  | 4, [a, t] => if (putX x t a).sz ≤ 1000 then some (impT (allT x a) (putX x t a)) else none
  | 5, [a, b] => some (impT (allT x (impT a b)) (impT a (allT x b)))
  | 6, [a] => some (eqT a a)
  | 7, [a, b, d, e] => some (impT (eqT a b) (impT d e))
  | _, _ => some zeroT
/-- what Make of the document answers -/
def makeD (k : Int) (l : List Tr) (x : Int) : Tr × Nat :=
  if ¬ (1 ≤ k ∧ k ≤ 7) then (zeroT, 70) else
  if faultN l.length (sortsL k.toNat).length (decide (k.toNat = 4 ∨ k.toNat = 5)) x (sortedN l (sortsL k.toNat)) ≠ 0 then (zeroT, faultN l.length (sortsL k.toNat).length (decide (k.toNat = 4 ∨ k.toNat = 5)) x (sortedN l (sortsL k.toNat))) else
  if rsideV k.toNat l x = false then (zeroT, 72) else
  match madeV k.toNat l x with
  | none => (zeroT, 20)
  | some t => limR t
theorem atN_nil (t : Tr) : atN t [] = limR t := by
  unfold atN limR
  by_cases h : rightN t = 0
  · rw [if_pos h, if_pos h, show partAt t [] = some t from by cases t; rfl]
  · rw [if_neg h, if_neg h]
theorem sorts_two {ks : List Tr} {cs : List Bool} (h : sortedN ks cs = 0) : (∀ q ∈ ks, rightN q = 0) ∧ sortsB ks cs = true := by
  unfold sortedN at h
  by_cases hc : firstL ks = 0
  · refine ⟨firstL_zero hc, ?_⟩
    rw [if_neg (by rw [hc]; simp)] at h
    cases hb : sortsB ks cs with
    | true => rfl
    | false => rw [hb] at h; simp at h
  · rw [if_pos hc] at h; exact absurd h hc
theorem pick_bad (f : Nat) (h : f ≠ 0) : (if ((zeroT, f) : Tr × Nat).2 ≠ 0 then (zeroT, ((zeroT, f) : Tr × Nat).2) else limR ((zeroT, f) : Tr × Nat).1) = (zeroT, f) := if_pos h
theorem pick_ok (t : Tr) : (if ((t, 0) : Tr × Nat).2 ≠ 0 then (zeroT, ((t, 0) : Tr × Nat).2) else limR ((t, 0) : Tr × Nat).1) = limR t := if_neg (by simp)
theorem fill4_eq {a t : Tr} {x : Int} (h0 : 0 ≤ x) (h1 : x ≤ 63) (ra : rightN a = 0) (rt : rightN t = 0) (ka : termB a.k = false) (kt : termB t.k = true) (hs : ffB x t a = true) :
    (if (fill4R a t x).2 ≠ 0 then (zeroT, (fill4R a t x).2) else limR (fill4R a t x).1) = match madeV 4 [a, t] x with | none => (zeroT, 20) | some s => limR s := by
  obtain ⟨sa, za, da⟩ := right_shp' ra
  obtain ⟨st, zt, dt⟩ := right_shp' rt
  have hz : (putX x t a).sz = a.sz + occN x a * (t.sz - 1) := putX_sz h0 h1 t a sa
  have hf : faultE a [(x, t)] = 0 := by
    unfold faultE
    rw [if_neg, if_neg (by rw [ra]; simp), if_neg, if_neg]
    · simp [termL, kt]
    · simp [rightL, rt]
    · simp [argE, h0, h1, hasN]
  have hc : capE a [(x, t)] = true := by
    have := (ffB_ok h0 h1 rt ra kt).2
    rw [hs] at this
    unfold capE capE.ffB'
    simpa using this.symm
  have he : eachR a [(x, t)] = limR (putX x t a) := eachR_ok hf hc
  have hshp : (putX x t a).shp = true := putE_shp (l := [(x, t)]) (fun p hp => by simp at hp; subst hp; exact ⟨kt, st⟩) a 0 sa
  have hkk : termB (putX x t a).k = false := by rw [putE_k (l := [(x, t)]) (fun p hp => by simp at hp; subst hp; exact kt) a 0]; exact ka
  obtain ⟨P, hP⟩ : ∃ P, P = putX x t a := ⟨_, rfl⟩
  rw [← hP] at hz he hshp hkk
  have e1 : (impT (allT x a) P).sz = 2 + a.sz + P.sz := by simp [Tr.sz, szL]; omega
  have e2 : (impT (allT x a) P).dp = 1 + max (1 + a.dp) P.dp := by simp [Tr.dp, dpL]
  have q1 : (allT x a).shp = true := by
    rw [shp_eq]
    show (kindOk 7 x 1 && shpL false [a]) = true
    rw [shpL_cons, ka, sa]
    simp [kindOk, shpL, h0, h1]
  have e3 : (impT (allT x a) P).shp = true := by
    rw [shp_eq]
    show (kindOk 6 0 2 && shpL false [allT x a, P]) = true
    rw [shpL_cons, shpL_cons, q1, hshp, hkk]
    rfl
  have hr : rightN (impT (allT x a) P) = if 1000 < 2 + a.sz + P.sz then 20 else if 100 < 1 + max (1 + a.dp) P.dp then 21 else 0 := by
    unfold rightN; rw [e1, e2, e3]; simp
  have hm : madeV 4 [a, t] x = if (putX x t a).sz ≤ 1000 then some (impT (allT x a) (putX x t a)) else none := rfl
  rw [← hP] at hm
  rw [hm]
  unfold fill4R
  rw [← hz, he]
  by_cases hb : 1000 < 2 + a.sz + P.sz
  · rw [if_pos hb, pick_bad 20 (by decide)]
    by_cases hp : P.sz ≤ 1000
    · rw [if_pos hp]
      show (zeroT, 20) = limR _
      have hr2 : rightN (impT (allT x a) P) = 20 := by rw [hr, if_pos hb]
      unfold limR
      rw [hr2]; simp
    · rw [if_neg hp]
  · rw [if_neg hb]
    have hp : P.sz ≤ 1000 := by omega
    rw [if_pos hp]
    have hP' : rightN P = if 100 < P.dp then 21 else 0 := by unfold rightN; rw [if_neg (by omega), hshp]; simp
    by_cases hd : 100 < P.dp
    · have e4 : limR P = (zeroT, 21) := by unfold limR; rw [hP', if_pos hd]; simp
      rw [e4, if_pos (show ((zeroT, 21) : Tr × Nat).2 ≠ 0 by simp), pick_bad 21 (by decide)]
      show (zeroT, 21) = limR _
      have hr2 : rightN (impT (allT x a) P) = 21 := by rw [hr, if_neg hb, if_pos (show 100 < 1 + max (1 + a.dp) P.dp by omega)]
      unfold limR
      rw [hr2]; simp
    · have e4 : limR P = (P, 0) := by unfold limR; rw [hP', if_neg hd]; simp
      rw [e4, if_neg (show ¬ ((P, 0) : Tr × Nat).2 ≠ 0 by simp), pick_ok]
theorem make_eq (k : Int) (l : List Tr) (x : Int) : makeV k l x = makeD k l x := by
  unfold makeV makeD
  by_cases hk : 1 ≤ k ∧ k ≤ 7
  · have hk' : ¬ ¬ (1 ≤ k ∧ k ≤ 7) := fun h => h hk
    rw [if_neg hk', if_neg hk']
    clear hk'
    obtain ⟨n, rfl⟩ : ∃ n : Nat, k = n := ⟨k.toNat, by omega⟩
    rw [show (n : Int).toNat = n by omega]
    by_cases hf : faultN l.length (sortsL n).length (decide (n = 4 ∨ n = 5)) x (sortedN l (sortsL n)) = 0
    · have hf' : ¬ faultN l.length (sortsL n).length (decide (n = 4 ∨ n = 5)) x (sortedN l (sortsL n)) ≠ 0 := fun h => h hf
      rw [if_neg hf', if_neg hf']
      clear hf'
      obtain ⟨hl, h0, h1, hs⟩ := faultN_zero hf
      obtain ⟨hr, hb⟩ := sorts_two hs
      have hn : n = 1 ∨ n = 2 ∨ n = 3 ∨ n = 4 ∨ n = 5 ∨ n = 6 ∨ n = 7 := by omega
      have at' : ∀ t : Tr, atN t [] = limR t := atN_nil
      rcases hn with rfl | rfl | rfl | rfl | rfl | rfl | rfl
      · obtain ⟨a, b, rfl⟩ := list_two (l := l) (by simpa [sortsL] using hl)
        simp [sideV, rsideV, fillV, madeV, at']
      · obtain ⟨a, b, d, rfl⟩ := list_three (l := l) (by simpa [sortsL] using hl)
        simp [sideV, rsideV, fillV, madeV, at']
      · obtain ⟨a, b, rfl⟩ := list_two (l := l) (by simpa [sortsL] using hl)
        simp [sideV, rsideV, fillV, madeV, at']
      · obtain ⟨a, t, rfl⟩ := list_two (l := l) (by simpa [sortsL] using hl)
        have ha := hr a (by simp)
        have ht := hr t (by simp)
        have hb' : (termB a.k == false) = true ∧ (termB t.k == true) = true := by
          have : ((termB a.k == false) && ((termB t.k == true) && true)) = true := hb
          simpa using this
        have ka : termB a.k = false := by simpa using hb'.1
        have kt : termB t.k = true := by simpa using hb'.2
        show (if sideV 4 [a, t] x = false then _ else _) = (if rsideV 4 [a, t] x = false then _ else _)
        have e1 : sideV 4 [a, t] x = ffB x t a := rfl
        have e2 : rsideV 4 [a, t] x = ffB x t a := rfl
        have e3 : fillV 4 [a, t] x = fill4R a t x := rfl
        rw [e1, e2, e3, at']
        cases hv : ffB x t a with
        | false => rfl
        | true =>
          have := fill4_eq h0 h1 ha ht ka kt hv
          simpa using this
      · obtain ⟨a, b, rfl⟩ := list_two (l := l) (by simpa [sortsL] using hl)
        have ha := hr a (by simp)
        have e1 : sideV 5 [a, b] x = rsideV 5 [a, b] x := by
          show nfB x a = !hasN (freeT a) x
          unfold nfB; rw [if_pos ⟨h0, h1⟩, if_pos ha]
        rw [e1]
        simp [fillV, madeV, at']
      · obtain ⟨a, rfl⟩ := list_one (l := l) (by simpa [sortsL] using hl)
        simp [sideV, rsideV, fillV, madeV, at']
      · obtain ⟨a, b, d, e, rfl⟩ := list_four (l := l) (by simpa [sortsL] using hl)
        simp [sideV, rsideV, fillV, madeV, at']
    · rw [if_pos hf, if_pos hf]
  · rw [if_pos hk, if_pos hk]
end Go.Proofs.YtgnfbhemkombaaaGreat
