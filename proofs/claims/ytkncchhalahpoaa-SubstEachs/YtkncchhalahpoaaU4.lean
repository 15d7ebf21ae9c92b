/- dropped of the document's layer 5. -/
import Derived.Test.YtkncchhalahpoaaU1
import Derived.Test.YtkncchhalahpoaaS1
namespace Go.Proofs.Ytkncchhalahpoaa
open Go.RowKit
set_option linter.unusedVariables false
set_option linter.unusedSimpArgs false
theorem infoP : (Try.prog.info? 47).map (fun i => (i.zero, i.size, i.bytes)) = some (some (.agg #[.int .i64 0, .int .i64 0, .int .i64 0, .slice none 0 0]), 4, 48) := by kernel_rfl
/-- the cells of a list of pairs -/
def rowP : List (Int × Tr) → List (Option Addr × Nat) → List Value
  | p :: r, (A, c) :: q => .int .i64 p.1 :: .int .i64 p.2.k :: .int .i64 p.2.i :: .slice A p.2.ks.length c :: rowP r q
  | _, _ => []
theorem rowP_len : ∀ (l : List (Int × Tr)) (cs : List (Option Addr × Nat)), cs.length = l.length → (rowP l cs).length = l.length * 4
  | [], [], _ => rfl
  | t :: r, (A, c) :: s, h => by simp only [rowP, List.length_cons]; rw [rowP_len r s (by simpa using h)]; omega
theorem rowP_append : ∀ (l : List (Int × Tr)) (cs : List (Option Addr × Nat)) (p : Int × Tr) (A : Option Addr) (c : Nat), cs.length = l.length → rowP (l ++ [p]) (cs ++ [(A, c)]) = rowP l cs ++ [.int .i64 p.1, .int .i64 p.2.k, .int .i64 p.2.i, .slice A p.2.ks.length c]
  | [], [], s, A, c, _ => rfl
  | x :: r, (B, d) :: q, s, A, c, h => by simp only [rowP, List.cons_append]; rw [rowP_append r q s A c (by simpa using h)]
theorem rowP_get : ∀ (l : List (Int × Tr)) (cs : List (Option Addr × Nat)) (m : Nat) (h : m < l.length), (hc : cs.length = l.length) →
    (rowP l cs)[m * 4]? = some (.int .i64 l[m].1) ∧ (rowP l cs)[m * 4 + 1]? = some (.int .i64 l[m].2.k) ∧ (rowP l cs)[m * 4 + 2]? = some (.int .i64 l[m].2.i) ∧ (rowP l cs)[m * 4 + 3]? = some (.slice (cs[m]'(by omega)).1 l[m].2.ks.length (cs[m]'(by omega)).2)
  | t :: r, (A, c) :: s, 0, _, _ => by simp [rowP]
  | t :: r, (A, c) :: s, m + 1, h, hc => by
    have := rowP_get r s m (by simpa using h) (by simpa using hc)
    simp only [rowP, List.getElem_cons_succ]
    rw [show (m + 1) * 4 = m * 4 + 4 by omega]
    exact this
/-- pairs in a row of one's own; their trees lie where they lay -/
structure IsD (w wr : World) (base : Nat) (l : List (Int × Tr)) (v : Value) (cs : List (Option Addr × Nat)) : Prop where
  below : Below w.heap.size w wr
  len : cs.length = l.length
  own : wr.ownsRow base 47 4 v l.length (rowP l cs)
  form : ∃ g cap, v = .slice (some ⟨g, 0, none⟩) l.length cap
  tree : ∀ m (h : m < l.length), IsT w w.heap.size l[m].2 (cs[m]'(by omega)).1 (cs[m]'(by omega)).2
theorem IsD.keep {w wr wr' : World} {base : Nat} {l : List (Int × Tr)} {v : Value} {cs : List (Option Addr × Nat)} (h : IsD w wr base l v cs) (hb : Below wr.heap.size wr wr') : IsD w wr' base l v cs :=
  ⟨h.below.trans (hb.mono h.below.size), h.len, ownsRow_same (hi := wr.heap.size) h.own (fun k _ k2 => hb.block k k2) (fun g e => (h.own.lt g e).2), h.form, h.tree⟩
theorem IsD.isP {w wr : World} {base : Nat} {l : List (Int × Tr)} {v : Value} {cs : List (Option Addr × Nat)} (h : IsD w wr base l v cs) (hc : l.length * 48 ≤ 140737488351232) : ∃ A c, v = .slice A l.length c ∧ IsP wr wr.heap.size l A c := by
  obtain ⟨g, cap, rfl⟩ := h.form
  refine ⟨_, _, rfl, ?_, hc, fun m hm => ?_⟩
  · rcases h.own.2 with ⟨e, _⟩ | ⟨g', cap', cur, e, _, _, hn, _⟩
    · cases e
    · cases e; exact hn
  · obtain ⟨r0, r1, r2, r3⟩ := rowP_get l cs m hm h.len
    have hg := h.own.lt g rfl
    have q : ∀ j, j < l.length * 4 → wr.cell? ⟨g, j, none⟩ = (rowP l cs)[j]? := fun j hj => h.own.cellAt j hj
    refine ⟨g, 0, _, _, rfl, hg.2, ?_, ?_, ?_, ?_, (h.tree m hm).keep h.below h.below.size⟩
    · rw [Nat.zero_add, q _ (by omega), r0]
    · rw [Nat.zero_add, q _ (by omega), r1]
    · rw [Nat.zero_add, q _ (by omega), r2]
    · rw [Nat.zero_add, q _ (by omega), r3]
theorem IsD.push {w wr w4 wx : World} {base : Nat} {l : List (Int × Tr)} {p : Int × Tr} {v : Value} {cs : List (Option Addr × Nat)} {A2 : Option Addr} {c2 g cap : Nat} (h : IsD w wr base l v cs) (hbase : w.heap.size ≤ base) (ht : IsT w w.heap.size p.2 A2 c2) (hx : Below wr.heap.size wr wx)
    (hown : w4.ownsRow base 47 4 (.slice (some ⟨g, 0, none⟩) (l.length + 1) cap) (l.length + 1) (rowP l cs ++ [.int .i64 p.1, .int .i64 p.2.k, .int .i64 p.2.i, .slice A2 p.2.ks.length c2])) (hg : wx.grownBy w4 v.ownBlock) :
    IsD w w4 base (l ++ [p]) (.slice (some ⟨g, 0, none⟩) (l.length + 1) cap) (cs ++ [(A2, c2)]) := by
  have e : (l ++ [p]).length = l.length + 1 := by simp
  have hlt := h.own.lt
  have hz := h.below.size
  refine ⟨?_, by simp [h.len], by rw [e, rowP_append _ _ _ _ _ h.len]; exact hown, ⟨g, cap, by rw [e]⟩, fun m hm => ?_⟩
  · refine (h.below.trans (hx.mono h.below.size)).trans ⟨hg.os, hg.tape, hg.output, hg.size, fun k hk => hg.block k ?_ ?_⟩
    · have := hx.size; omega
    · intro e'
      have := (hlt k e'.symm).1
      omega
  · rcases Nat.lt_or_ge m l.length with h1 | h1
    · have := h.tree m h1
      simpa [List.getElem_append_left h1, List.getElem_append_left (show m < cs.length by rw [h.len]; exact h1)] using this
    · obtain rfl : m = l.length := by rw [e] at hm; omega
      simpa [h.len, List.getElem_append_right] using ht
theorem IsD.start (w : World) (x : Int) {l : List (Int × Tr)} : IsD w (w.alloc (.cells #[] 47)) w.heap.size (dropP (l.take 0) x) (.slice (some ⟨w.heap.size, 0, none⟩) 0 0) [] := by
  refine ⟨below_alloc w _, rfl, ⟨rfl, .inr ⟨w.heap.size, 0, #[], rfl, Nat.le_refl _, ?_, Nat.le_refl _, by unfold maxLen; omega, rfl, rfl⟩⟩, ⟨_, _, rfl⟩, fun m hm => by simp [dropP] at hm⟩
  show (w.heap.push _)[w.heap.size]? = _
  simp
theorem news4 (w : World) (o : Obj) (x y z u : Value) (t : TypeId) (j : Nat) (q : Value) (h : [x, y, z, u][j]? = some q) : ((w.alloc o).alloc (.cells #[x, y, z, u] t)).cell? ((⟨w.heap.size + 1, 0, none⟩ : Addr).add j) = some q := by
  have e2 : (⟨w.heap.size + 1, 0, none⟩ : Addr).add j = ⟨(w.alloc o).heap.size, j, none⟩ := by rw [World.size_alloc]; unfold Addr.add; split <;> simp_all
  rw [e2, cell_new3]
  simpa using h
theorem dropP_take (l : List (Int × Tr)) (x : Int) (m : Nat) (h : m < l.length) : dropP (l.take (m + 1)) x = if l[m].1 = x then dropP (l.take m) x else dropP (l.take m) x ++ [l[m]] := by
  rw [List.take_succ_eq_append_getElem h]
  unfold dropP
  rw [List.filter_append]
  by_cases he : l[m].1 = x
  · rw [if_pos he]; simp [he]
  · rw [if_neg he]; simp [he]
theorem dropP_len (l : List (Int × Tr)) (x : Int) : (dropP l x).length ≤ l.length := List.length_filter_le _ _
set_option maxHeartbeats 4000000 in
set_option maxRecDepth 100000 in
theorem dropped_any (l : List (Int × Tr)) (A : Option Addr) (c : Nat) (x : Int) (w : World) (hl : IsP w w.heap.size l A c) :
    Calls Try.prog 83 #[.slice A l.length c, .int .i64 x] w fun e w' => Below w.heap.size w w' ∧ ∃ A' c', e = .returned (.slice A' (dropP l x).length c') ∧ IsP w' w'.heap.size (dropP l x) A' c' := by
  have HL := Lib.hid hl
  have hcap := hl.cap
  have hle := hl.le
  obtain ⟨i0, hi, hz0, hz1, hz2⟩ := info_parts infoP
  have HI := Lib.hid (And.intro hi (And.intro hz0 (And.intro hz1 hz2)))
  clear hi hz0 hz1 hz2 hl
  go_enter Try.func83, Try.ntmps83
  go_wp2_with fail
  go_loopw [5, 11] (fun v i wr => ∃ (m : Nat) (cs : List (Option Addr × Nat)), m ≤ l.length ∧ i = .int .i64 m ∧ IsD w wr w.heap.size (dropP (l.take m) x) v cs) (fun _ i _ => l.length - (intOf i).toNat)
  case atStart => exact ⟨0, [], Nat.zero_le _, rfl, IsD.start w x⟩
  case round =>
    obtain ⟨m, cs, hm', rfl, hD⟩ := hrel
    have DD := Lib.hid hD
    obtain ⟨g, cap, rfl⟩ := hD.form
    have bel := hD.below
    clear hD
    by_cases hlt : m < l.length
    · obtain ⟨b, o, A', c', rfl, hltb, p0, p1, p2, p3, ht⟩ := HL.out.at_ m hlt
      have DT := Lib.hid (dropP_take l x m hlt)
      obtain ⟨p, hp⟩ : ∃ p, p = l[m] := ⟨_, rfl⟩
      rw [← hp] at p0 p1 p2 p3 ht DT
      have d0 := (bel.cell hltb).trans p0
      have d1 := (bel.cell hltb).trans p1
      have d2 := (bel.cell hltb).trans p2
      have d3 := (bel.cell hltb).trans p3
      have TT := Lib.hid ht
      obtain ⟨q0, q1, q2, q3⟩ := box4_new wr (.int .i64 p.1) (.int .i64 p.2.k) (.int .i64 p.2.i) (.slice A' p.2.ks.length c') 47
      clear p0 p1 p2 p3 hp ht
      by_cases he : p.1 = x
      · have he' : (p.1 != x) = false := by simp [he]
        rw [if_pos he] at DT
        have D1 := Lib.hid (DD.out.keep (below_alloc wr (.cells #[.int .i64 p.1, .int .i64 p.2.k, .int .i64 p.2.i, .slice A' p.2.ks.length c'] 47)))
        clear he
        go_wp2_with fail
        go_roundw
        case rel => exact ⟨m + 1, cs, by omega, by go_num, by rw [DT.out]; exact D1.out⟩
        case measure => simp [intOf]; omega
      · have he' : (p.1 != x) = true := by rw [bne_iff_ne]; exact he
        rw [if_neg he] at DT
        have hdl := dropP_len (l.take m) x
        rw [List.length_take] at hdl
        have OWN := Lib.hid (fun (W : World) (h : Below wr.heap.size wr W) => ownsRow_same (hi := wr.heap.size) (w' := W) DD.out.own (fun k _ k2 => h.block k k2) (fun g e => (DD.out.own.lt g e).2))
        have PUSH := Lib.hid (fun (w4 wy : World) (g' cap' : Nat) => @IsD.push w wr w4 wy w.heap.size _ p _ cs A' c' g' cap' DD.out (Nat.le_refl _) TT.out)
        have B2 := Lib.hid (fun o o' => ((below_alloc wr o).trans ((below_alloc (wr.alloc o) o').mono (below_alloc wr o).size)))
        obtain ⟨dl, hdl0⟩ : ∃ dl, dl = dropP (l.take m) x := ⟨_, rfl⟩
        rw [← hdl0] at OWN PUSH DT hdl ⊢
        clear hdl0 he
        have hbz := bel.size
        go_wp2_with (at_builtin; refine wpList_append_lies _ (by rfl) _ _ _ (by rfl) w.heap.size 47 i0 _ 4 48 Try.underlying30 HI.out.1 HI.out.2.1 HI.out.2.2.1 HI.out.2.2.2 (by rfl) (by omega) _ dl.length (rowP dl cs) (by rfl) (by exact OWN.out _ (B2.out _ _)) ⟨wr.heap.size + 1, 0, none⟩ 1 1 [.int .i64 p.1, .int .i64 p.2.k, .int .i64 p.2.i, .slice A' p.2.ks.length c'] (by rfl) (by rfl) (by exact news4 _ _ _ _ _ _ _) (by simp [Value.oneCell']) (by omega) (by unfold maxLen; omega) (by omega) (by simp; omega) (wr.heap.size + 2) (by simp) ?_; intro g4 cap4 w4 hown4 hgrow hat hlt4; have HO4 := Lib.hid hown4; have HG4 := Lib.hid hgrow; clear hown4 hgrow hat)
        have ND := Lib.hid (PUSH.out w4 _ g4 cap4 (B2.out _ _) HO4.out HG4.out)
        go_roundw
        case rel => exact ⟨m + 1, _, by omega, by go_num, by rw [DT.out]; exact ND.out⟩
        case measure => simp [intOf]; omega
    · obtain rfl : m = l.length := by omega
      rw [List.take_length] at DD
      have hdl := dropP_len l x
      obtain ⟨A2, c2, e2, hP⟩ := DD.out.isP (by omega)
      have PP := Lib.hid hP
      have E2 := Lib.hid e2
      clear hP e2
      go_wp2_with fail
      go_ret
      exact ⟨DD.out.below, A2, c2, by rw [← E2.out]; simp [List.take_length], PP.out⟩
end Go.Proofs.Ytkncchhalahpoaa
