/- Pairs in memory; isVariable, isQuantifier, boundBelow, termFor of package subst. -/
import Derived.Test.YtgnfbhemkombaaaGreatF5
import Derived.Test.YtgnfbhemkombaaaGreatE24
import Derived.Test.YtgnfbhemkombaaaGreatT17
import Derived.WalkSmall
namespace Go.Proofs.YtgnfbhemkombaaaGreat
open Go.RowKit
set_option linter.unusedVariables false
set_option linter.unusedSimpArgs false
/-- pair p lies at place m -/
def PairAt (w : World) (B : Nat) (A : Option Addr) (m : Nat) (p : Int × Tr) : Prop :=
  ∃ b o A' c', A = some ⟨b, o, none⟩ ∧ b < B ∧ w.cell? ⟨b, o + m * 4, none⟩ = some (.int .i64 p.1) ∧ w.cell? ⟨b, o + m * 4 + 1, none⟩ = some (.int .i64 p.2.k) ∧ w.cell? ⟨b, o + m * 4 + 2, none⟩ = some (.int .i64 p.2.i) ∧
    w.cell? ⟨b, o + m * 4 + 3, none⟩ = some (.slice A' p.2.ks.length c') ∧ IsT w B p.2 A' c'
/-- a list of pairs in memory -/
structure IsP (w : World) (B : Nat) (l : List (Int × Tr)) (A : Option Addr) (c : Nat) : Prop where
  le : l.length ≤ c
  cap : l.length * 48 ≤ 140737488351232
  at_ : ∀ m (h : m < l.length), PairAt w B A m l[m]
theorem IsP.keep {w w' : World} {B B' : Nat} {l : List (Int × Tr)} {A : Option Addr} {c : Nat} (h : IsP w B l A c) (hb : Below B w w') (hB : B ≤ B') : IsP w' B' l A c :=
  ⟨h.le, h.cap, fun m hm => by
    obtain ⟨b, o, A', c', e, hlt, h0, h1, h2, h3, ht⟩ := h.at_ m hm
    exact ⟨b, o, A', c', e, by omega, (hb.cell hlt).trans h0, (hb.cell hlt).trans h1, (hb.cell hlt).trans h2, (hb.cell hlt).trans h3, ht.keep hb hB⟩⟩
theorem IsP.up {w w' : World} {l : List (Int × Tr)} {A : Option Addr} {c : Nat} (h : IsP w w.heap.size l A c) (hb : Below w.heap.size w w') : IsP w' w'.heap.size l A c := h.keep hb hb.size
theorem lookP_at {l : List (Int × Tr)} {i : Int} : ∀ {m : Nat} (h : m < l.length), l[m].1 = i → (∀ m' (h' : m' < l.length), m' < m → l[m'].1 ≠ i) → lookP l i = some l[m].2 := by
  induction l with
  | nil => intro m h; simp at h
  | cons p r ih =>
    intro m h he hn
    cases m with
    | zero =>
      simp only [List.getElem_cons_zero] at he ⊢
      unfold lookP
      rw [List.find?_cons, decide_eq_true he]
      rfl
    | succ m =>
      have h0 : ¬ p.1 = i := by have := hn 0 (by simp) (by omega); simpa using this
      have := ih (m := m) (by simpa using h) (by simpa using he) (fun m' h' hm => by have := hn (m' + 1) (by simpa using h') (by omega); simpa using this)
      unfold lookP at this ⊢
      rw [List.find?_cons, decide_eq_false h0]
      simpa using this
theorem lookP_no {l : List (Int × Tr)} {i : Int} (hn : ∀ m (h : m < l.length), l[m].1 ≠ i) : lookP l i = none := by
  unfold lookP
  rw [Option.map_eq_none_iff, List.find?_eq_none]
  intro p hp
  obtain ⟨m, hm, rfl⟩ := List.getElem_of_mem hp
  simpa using hn m hm
set_option maxHeartbeats 400000 in
theorem sIsVar_any (k i : Int) (A : Option Addr) (n c : Nat) (w : World) :
    Calls Tryz.prog 145 #[.agg #[.int .i64 k, .int .i64 i, .slice A n c]] w fun e w' => e = .returned (.bool (decide (k = 1))) ∧ Below w.heap.size w w' := by
  have hb : Below w.heap.size w (w.alloc (.cells #[.int .i64 k, .int .i64 i, .slice A n c] 24)) := (Below.refl _ _).alloc (Nat.le_refl _) _
  by_cases h1 : k = 1
  · subst h1
    go_enter Tryz.func145, Tryz.ntmps145
    go_wp2
    go_ret
    exact ⟨rfl, hb⟩
  · have h1' : (k == 1) = false := by simpa using h1
    have T := Lib.hid (show decide (k = 1) = false by simp [h1])
    go_enter Tryz.func145, Tryz.ntmps145
    go_wp2
    go_ret
    exact ⟨by rw [T.out]; rfl, hb⟩
set_option maxHeartbeats 400000 in
theorem sIsQuant_any (k i : Int) (A : Option Addr) (n c : Nat) (w : World) :
    Calls Tryz.prog 149 #[.agg #[.int .i64 k, .int .i64 i, .slice A n c]] w fun e w' => e = .returned (.bool (decide (k = 7 ∨ k = 10))) ∧ Below w.heap.size w w' := by
  have hb : Below w.heap.size w (w.alloc (.cells #[.int .i64 k, .int .i64 i, .slice A n c] 24)) := (Below.refl _ _).alloc (Nat.le_refl _) _
  by_cases h1 : k = 7
  · subst h1
    go_enter Tryz.func149, Tryz.ntmps149
    go_wp2
    go_ret
    exact ⟨rfl, hb⟩
  · have h1' : (k == 7) = false := by simpa using h1
    by_cases h2 : k = 10
    · subst h2
      go_enter Tryz.func149, Tryz.ntmps149
      go_wp2
      go_ret
      exact ⟨rfl, hb⟩
    · have h2' : (k == 10) = false := by simpa using h2
      have T := Lib.hid (show decide (k = 7 ∨ k = 10) = false by simp [h1, h2])
      go_enter Tryz.func149, Tryz.ntmps149
      go_wp2
      go_ret
      exact ⟨by rw [T.out]; rfl, hb⟩
theorem bdB_U {k i : Int} {bd : Nat} (h : U64 bd) : U64 (bdB k i bd) := by
  unfold bdB
  split
  · exact withU _ h
  · exact h
set_option maxHeartbeats 1000000 in
theorem sbound_any (k i : Int) (A : Option Addr) (n c bd : Nat) (w : World) (hU : U64 bd) :
    Calls Tryz.prog 144 #[.agg #[.int .i64 k, .int .i64 i, .slice A n c], .int .u64 (bd : Int)] w fun e w' => e = .returned (.int .u64 (bdB k i bd : Nat)) ∧ Below w.heap.size w w' := by
  have hb0 : Below w.heap.size w (w.alloc (.cells #[.int .i64 k, .int .i64 i, .slice A n c] 24)) := (Below.refl _ _).alloc (Nat.le_refl _) _
  obtain ⟨y0, y1, y2⟩ := box_new w (.int .i64 k) (.int .i64 i) (.slice A n c) 24
  have HB0 := Lib.hid hb0
  have BX := Lib.hid (Box3.new w (.int .i64 k) (.int .i64 i) (.slice A n c))
  have HU := Lib.hid hU
  clear hb0 hU
  go_enter Tryz.func144, Tryz.ntmps144
  go_wp2_with fail
  refine (sIsQuant_any k i A n c _).mono ?_
  rintro e w1 ⟨rfl, hb1⟩
  have BB := Lib.hid (HB0.out.trans (hb1.mono HB0.out.size))
  have BX1 := Lib.hid (BX.out.keep hb1 BX.out.lt)
  obtain ⟨z0, z1, z2⟩ := BX1.out.cells
  clear hb1 y0 y1 y2
  by_cases h1 : k = 7 ∨ k = 10
  · rw [decide_eq_true h1]
    have F := Lib.hid (show bdB k i bd = withN bd i by unfold bdB; rw [if_pos h1])
    clear h1
    go_wp2_with fail
    refine (with_any bd i _ HU.out).mono ?_
    rintro e w9 ⟨rfl, hw9⟩
    rw [← hw9]
    clear hw9
    go_wp2_with fail
    go_ret
    exact ⟨by rw [F.out]; rfl, BB.out⟩
  · rw [decide_eq_false h1]
    have F := Lib.hid (show bdB k i bd = bd by unfold bdB; rw [if_neg h1])
    clear h1
    go_wp2_with fail
    go_ret
    exact ⟨by rw [F.out]; rfl, BB.out⟩
theorem box4_new (w : World) (a b c d : Value) (t : TypeId) : (w.alloc (.cells #[a, b, c, d] t)).cell? ⟨w.heap.size, 0, none⟩ = some a ∧ (w.alloc (.cells #[a, b, c, d] t)).cell? ⟨w.heap.size, 1, none⟩ = some b ∧ (w.alloc (.cells #[a, b, c, d] t)).cell? ⟨w.heap.size, 2, none⟩ = some c ∧ (w.alloc (.cells #[a, b, c, d] t)).cell? ⟨w.heap.size, 3, none⟩ = some d :=
  ⟨cell_new3 _ _ _ 0, cell_new3 _ _ _ 1, cell_new3 _ _ _ 2, cell_new3 _ _ _ 3⟩
set_option maxHeartbeats 400000 in
theorem tf1_any (v k i id : Int) (A : Option Addr) (n c nb : Nat) (w : World) (hid : w.cell? ⟨nb, 1, none⟩ = some (.int .i64 id)) :
    Calls Tryz.prog 147 #[.agg #[.int .i64 v, .int .i64 k, .int .i64 i, .slice A n c], .pointer (some ⟨nb, 0, none⟩)] w fun e w' => e = .returned (.bool (v == id)) ∧ Below w.heap.size w w' := by
  have hb : Below w.heap.size w (w.alloc (.cells #[.int .i64 v, .int .i64 k, .int .i64 i, .slice A n c] 108)) := (Below.refl _ _).alloc (Nat.le_refl _) _
  have hc : (w.alloc (.cells #[.int .i64 v, .int .i64 k, .int .i64 i, .slice A n c] 108)).cell? ⟨nb, 1, none⟩ = some (.int .i64 id) := (hb.cell (p := ⟨nb, 1, none⟩) (block_lt_of_cell hid)).trans hid
  go_enter Tryz.func147, Tryz.ntmps147
  go_wp2
  go_ret
  exact ⟨by first | rfl | simp, hb⟩
/-- where the first pair of a number stands -/
def IdxPost (w : World) (l : List (Int × Tr)) (id : Int) (e : Ending) (w' : World) : Prop :=
  Below w.heap.size w w' ∧ ((∃ m, ∃ h : m < l.length, lookP l id = some l[m].2 ∧ e = .returned (.int .i64 (m : Int))) ∨ (lookP l id = none ∧ e = .returned (.int .i64 (-1))))
set_option maxHeartbeats 4000000 in
set_option maxRecDepth 100000 in
theorem indexFunc_any (l : List (Int × Tr)) (A : Option Addr) (c nb : Nat) (id : Int) (w : World) (hl : IsP w w.heap.size l A c) (hid : w.cell? ⟨nb, 1, none⟩ = some (.int .i64 id)) :
    Calls Tryz.prog 146 #[.slice A l.length c, .func (.func 147) #[] #[.pointer (some ⟨nb, 0, none⟩)]] w (IdxPost w l id) := by
  have HL := Lib.hid hl
  have hcap := hl.cap
  have hle := hl.le
  have HID := Lib.hid hid
  clear hl hid
  go_enter Tryz.func146, Tryz.ntmps146
  go_wp2_with fail
  go_loopw [8] (fun i wr => ∃ m : Nat, m ≤ l.length ∧ i = .int .i64 m ∧ (∀ m' (h' : m' < l.length), m' < m → l[m'].1 ≠ id) ∧ Below w.heap.size w wr) (fun i _ => l.length - (intOf i).toNat)
  case atStart => exact ⟨0, Nat.zero_le _, rfl, fun m' _ h => by omega, Below.refl _ _⟩
  case round =>
    obtain ⟨m, hm', rfl, hno, hbr⟩ := hrel
    have HN := Lib.hid hno
    clear hno
    by_cases hlt : m < l.length
    · obtain ⟨b, o, A', c', rfl, hltb, p0, p1, p2, p3, ht⟩ := HL.out.at_ m hlt
      have NXT := Lib.hid (show l[m].1 ≠ id → ∀ m' (h' : m' < l.length), m' < m + 1 → l[m'].1 ≠ id from fun hne m' h' hm => by
        rcases Nat.lt_or_ge m' m with h | h
        · exact HN.out m' h' h
        · obtain rfl : m' = m := by omega
          exact hne)
      have YES := Lib.hid (show l[m].1 = id → lookP l id = some l[m].2 from fun he => lookP_at hlt he HN.out)
      obtain ⟨p, hp⟩ : ∃ p, p = l[m] := ⟨_, rfl⟩
      rw [← hp] at p0 p1 p2 p3 ht NXT YES
      have HP := Lib.hid hp
      clear hp
      have d0 := (hbr.cell hltb).trans p0
      have d1 := (hbr.cell hltb).trans p1
      have d2 := (hbr.cell hltb).trans p2
      have d3 := (hbr.cell hltb).trans p3
      have hidr := (hbr.cell (p := ⟨nb, 1, none⟩) (block_lt_of_cell HID.out)).trans HID.out
      clear p0 p1 p2 p3 ht
      go_wp2_with fail
      refine (tf1_any p.1 p.2.k p.2.i id A' p.2.ks.length c' nb _ (by exact hidr)).mono ?_
      rintro e w1 ⟨rfl, hb1⟩
      have HB1 := Lib.hid (hbr.trans (hb1.mono hbr.size))
      clear hb1
      by_cases he : p.1 = id
      · have he' : (p.1 == id) = true := by simp [he]
        have Y := Lib.hid (YES.out he)
        clear he
        rw [he']
        go_wp2_with fail
        go_ret
        exact ⟨HB1.out, .inl ⟨m, hlt, by rw [← HP.out]; exact Y.out, rfl⟩⟩
      · have he' : (p.1 == id) = false := by simpa using he
        have Y := Lib.hid (NXT.out he)
        clear he
        rw [he']
        go_wp2_with fail
        go_roundw
        case rel => exact ⟨m + 1, by omega, by go_num, Y.out, HB1.out⟩
        case measure => simp [intOf]; omega
    · obtain rfl : m = l.length := by omega
      have F := Lib.hid (show lookP l id = none from lookP_no fun m h => HN.out m h h)
      go_wp2_with fail
      go_ret
      exact ⟨hbr, .inr ⟨F.out, rfl⟩⟩
/-- what termFor answers: a term that lies where it lay -/
def TfPost (w : World) (x : Option Tr) (e : Ending) (w' : World) : Prop :=
  Below w.heap.size w w' ∧ match x with
    | none => e = .returned (.tuple #[.agg #[.int .i64 0, .int .i64 0, .slice none 0 0], .bool false])
    | some q => ∃ A' c', e = .returned (.tuple #[.agg #[.int .i64 q.k, .int .i64 q.i, .slice A' q.ks.length c'], .bool true]) ∧ IsT w w.heap.size q A' c'
set_option maxHeartbeats 4000000 in
set_option maxRecDepth 100000 in
theorem termFor_any (k i : Int) (A : Option Addr) (n c : Nat) (l : List (Int × Tr)) (Al : Option Addr) (cl bd : Nat) (w : World) (hU : U64 bd) (hl : IsP w w.heap.size l Al cl) :
    Calls Tryz.prog 142 #[.agg #[.int .i64 k, .int .i64 i, .slice A n c], .slice Al l.length cl, .int .u64 (bd : Int)] w (TfPost w (lookE l bd k i)) := by
  have hmf : ∀ (fn : Fn) (first cap : Array Value) (w : World), (Instr.makeFunc fn first cap).run Tryz.prog w = .ok (.func fn first cap) w := fun _ _ _ _ => rfl
  obtain ⟨e0, e1, hb0⟩ := two_boxes0 w (.int .i64 k) (.int .i64 i) (.slice A n c) (.int .i64 0) (.int .i64 0) (.slice none 0 0)
  have E0 := Lib.hid e0
  have E1 := Lib.hid e1
  have HB0 := Lib.hid hb0
  have HU := Lib.hid hU
  have HL := Lib.hid hl
  have hcap := hl.cap
  have hle := hl.le
  obtain ⟨y0, y1, y2⟩ := e0.cells
  clear e0 e1 hb0 hU hl
  go_enter Tryz.func142, Tryz.ntmps142
  go_wp2_with fail
  refine (sIsVar_any k i A n c _).mono ?_
  rintro e w1 ⟨rfl, hb1⟩
  have B1 := Lib.hid (E0.out.keep hb1 E0.out.lt)
  have R1 := Lib.hid (E1.out.keep hb1 E1.out.lt)
  have W1 := Lib.hid (HB0.out.trans (hb1.mono HB0.out.size))
  clear hb1 y0 y1 y2
  obtain ⟨y0, y1, y2⟩ := B1.out.cells
  obtain ⟨z0, z1, z2⟩ := R1.out.cells
  have f0 := R1.out.frozen 0
  have f1 := R1.out.frozen 1
  have f2 := R1.out.frozen 2
  by_cases hk : k = 1
  · rw [decide_eq_true hk]
    go_wp2_with fail
    refine (has_any bd i _ HU.out).mono ?_
    rintro e w9 ⟨rfl, hw9⟩
    rw [← hw9]
    clear hw9
    cases hh : hasN bd i with
    | true =>
      have F := Lib.hid (show lookE l bd k i = none by unfold lookE; rw [if_neg (by simp [hh])])
      clear hk
      go_wp2_with fail
      refine bodyPost_ret (v := .tuple #[.agg #[.int .i64 0, .int .i64 0, .slice none 0 0], .bool false]) (by simp [results, Tryz.results142, go_sem, z0, z1, z2]) rfl ⟨below_set3 W1.out _ _ _ (by omega), ?_⟩
      rw [F.out]
    | false =>
      have F := Lib.hid (show lookE l bd k i = lookP l i by unfold lookE; rw [if_pos ⟨hk, hh⟩])
      have L1 := Lib.hid (HL.out.up W1.out)
      clear hk
      go_wp2_with fail
      refine (indexFunc_any l Al cl w.heap.size i _ (by exact L1.out) (by exact y1)).mono ?_
      rintro e w2 ⟨hb2, hp⟩
      have R2 := Lib.hid (R1.out.keep hb2 R1.out.lt)
      have W2 := Lib.hid (W1.out.trans (hb2.mono W1.out.size))
      have hb2' := hb2
      clear hb2 z0 z1 z2 f0 f1 f2 y0 y1 y2
      obtain ⟨z0, z1, z2⟩ := R2.out.cells
      have f0 := R2.out.frozen 0
      have f1 := R2.out.frozen 1
      have f2 := R2.out.frozen 2
      rcases hp with ⟨m, hm, hlook, rfl⟩ | ⟨hlook, rfl⟩
      · obtain ⟨b, o, A', c', rfl, hltb, p0, p1, p2, p3, ht⟩ := HL.out.at_ m hm
        have G := Lib.hid (F.out.trans hlook)
        obtain ⟨p, hp⟩ : ∃ p, p = l[m] := ⟨_, rfl⟩
        rw [← hp] at p0 p1 p2 p3 ht G
        have HTT := Lib.hid ht
        clear hp hlook ht
        have d0 := (W2.out.cell hltb).trans p0
        have d1 := (W2.out.cell hltb).trans p1
        have d2 := (W2.out.cell hltb).trans p2
        have d3 := (W2.out.cell hltb).trans p3
        have g0 : ¬ (m : Int) < 0 := by omega
        clear p0 p1 p2 p3 hb2'
        go_wp2_with fail
        refine bodyPost_ret (v := .tuple #[.agg #[.int .i64 p.2.k, .int .i64 p.2.i, .slice A' p.2.ks.length c'], .bool true]) (by simp [results, Tryz.results142, go_sem, z0, z1, z2]) rfl ⟨below_set3 W2.out _ _ _ (by omega), ?_⟩
        rw [G.out]
        exact ⟨A', c', rfl, HTT.out⟩
      · have G := Lib.hid (F.out.trans hlook)
        clear hlook hb2'
        go_wp2_with fail
        refine bodyPost_ret (v := .tuple #[.agg #[.int .i64 0, .int .i64 0, .slice none 0 0], .bool false]) (by simp [results, Tryz.results142, go_sem, z0, z1, z2]) rfl ⟨below_set3 W2.out _ _ _ (by omega), ?_⟩
        rw [G.out]
  · rw [decide_eq_false hk]
    have F := Lib.hid (show lookE l bd k i = none by unfold lookE; rw [if_neg (fun h => hk h.1)])
    clear hk
    go_wp2_with fail
    refine bodyPost_ret (v := .tuple #[.agg #[.int .i64 0, .int .i64 0, .slice none 0 0], .bool false]) (by simp [results, Tryz.results142, go_sem, z0, z1, z2]) rfl ⟨below_set3 W1.out _ _ _ (by omega), ?_⟩
    rw [F.out]
end Go.Proofs.YtgnfbhemkombaaaGreat
