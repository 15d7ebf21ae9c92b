/- measure of package subst. -/
import Derived.Test.YtmmdhlemkcddmaaS1
import Derived.Test.YtmmdhlemkcddmaaE28
import Derived.WalkMore
import Derived.Deep.LoopGhost
import Derived.Deep.RegionHeld3
namespace Go.Proofs.Ytmmdhlemkcddmaa
open Go.RowKit
set_option linter.unusedVariables false
set_option linter.unusedSimpArgs false
theorem infoSp : (Try.prog.info? 153).map (fun i => (i.zero, i.size, i.bytes)) = some (some (.agg #[.int .i64 0, .int .i64 0, .slice none 0 0, .int .i64 0, .int .u64 0]), 5, 56) := by kernel_rfl
/-- the cells of a list of spots -/
def rowS : List Spot → List (Option Addr × Nat) → List Value
  | s :: r, (A, c) :: q => .int .i64 s.1.k :: .int .i64 s.1.i :: .slice A s.1.ks.length c :: .int .i64 (s.2.1 : Int) :: .int .u64 (s.2.2 : Int) :: rowS r q
  | _, _ => []
theorem rowS_len : ∀ (l : List Spot) (cs : List (Option Addr × Nat)), cs.length = l.length → (rowS l cs).length = l.length * 5
  | [], [], _ => rfl
  | t :: r, (A, c) :: s, h => by simp only [rowS, List.length_cons]; rw [rowS_len r s (by simpa using h)]; omega
theorem rowS_append : ∀ (l : List Spot) (cs : List (Option Addr × Nat)) (s : Spot) (A : Option Addr) (c : Nat), cs.length = l.length → rowS (l ++ [s]) (cs ++ [(A, c)]) = rowS l cs ++ [.int .i64 s.1.k, .int .i64 s.1.i, .slice A s.1.ks.length c, .int .i64 (s.2.1 : Int), .int .u64 (s.2.2 : Int)]
  | [], [], s, A, c, _ => rfl
  | x :: r, (B, d) :: q, s, A, c, h => by simp only [rowS, List.cons_append]; rw [rowS_append r q s A c (by simpa using h)]
/-- a box of five cells -/
def BoxS (w : World) (b : Nat) (x y z u v : Value) : Prop := w.heap[b]? = some (.cells #[x, y, z, u, v] 153 (0, 0))
theorem BoxS.cells {w : World} {b : Nat} {x y z u v : Value} (h : BoxS w b x y z u v) : w.cell? ⟨b, 0, none⟩ = some x ∧ w.cell? ⟨b, 1, none⟩ = some y ∧ w.cell? ⟨b, 2, none⟩ = some z ∧ w.cell? ⟨b, 3, none⟩ = some u ∧ w.cell? ⟨b, 4, none⟩ = some v := by
  unfold BoxS at h
  simp [World.cell?, h]
theorem BoxS.lt {w : World} {b : Nat} {x y z u v : Value} (h : BoxS w b x y z u v) : b < w.heap.size := (Array.getElem?_eq_some_iff.1 h).1
theorem BoxS.keep {w w' : World} {b B : Nat} {x y z u v : Value} (h : BoxS w b x y z u v) (hb : Below B w w') (hB : b < B) : BoxS w' b x y z u v := (hb.block b hB).trans h
theorem BoxS.grown {w w' : World} {b : Nat} {row : Option Nat} {x y z u v : Value} (h : BoxS w b x y z u v) (hg : w.grownBy w' row) (hne : some b ≠ row) : BoxS w' b x y z u v := (hg.block b h.lt hne).trans h
theorem BoxS.new (w : World) (x y z u v : Value) : BoxS (w.alloc (.cells #[x, y, z, u, v] 153)) w.heap.size x y z u v := by
  show (w.heap.push _)[w.heap.size]? = _
  simp
theorem news5s (w : World) (x y z u v : Value) (t : TypeId) (j : Nat) (q : Value) (h : [x, y, z, u, v][j]? = some q) : (w.alloc (.cells #[x, y, z, u, v] t)).cell? ((⟨w.heap.size, 0, none⟩ : Addr).add j) = some q := by
  have e2 : (⟨w.heap.size, 0, none⟩ : Addr).add j = ⟨w.heap.size, j, none⟩ := by unfold Addr.add; split <;> simp_all
  rw [e2, cell_new3]
  simpa using h
def goodS (s : Spot) : Prop := s.1.shp = true ∧ 1 ≤ s.2.1 ∧ s.2.1 - 1 + s.1.dp ≤ 100 ∧ U64 s.2.2
/-- the spots lie in a row of one's own; their trees lie where they lay -/
structure IsS (w wr : World) (st : List Spot) (A : Option Addr) (c : Nat) (cs : List (Option Addr × Nat)) : Prop where
  below : Below w.heap.size w wr
  len : cs.length = st.length
  own : wr.ownsRow (w.heap.size + 1) 153 5 (.slice A st.length c) st.length (rowS st cs)
  tree : ∀ m (h : m < st.length), IsT w w.heap.size st[m].1 (cs[m]'(by omega)).1 (cs[m]'(by omega)).2
  good : ∀ s ∈ st, goodS s
theorem IsS.keep {w wr wr' : World} {st : List Spot} {A : Option Addr} {c : Nat} {cs : List (Option Addr × Nat)} (h : IsS w wr st A c cs) (hb : Below wr.heap.size wr wr') : IsS w wr' st A c cs :=
  ⟨h.below.trans (hb.mono h.below.size), h.len, ownsRow_same (hi := wr.heap.size) h.own (fun k _ k2 => hb.block k k2) (fun g e => (h.own.lt g e).2), h.tree, h.good⟩
theorem IsS.pop {w wr : World} {st : List Spot} {s : Spot} {A : Option Addr} {c : Nat} {cs : List (Option Addr × Nat)} (h : IsS w wr (st ++ [s]) A c cs) :
    ∃ g cs0 A2 c2, A = some ⟨g, 0, none⟩ ∧ w.heap.size + 1 ≤ g ∧ g < wr.heap.size ∧ st.length + 1 ≤ c ∧ IsS w wr st (some ⟨g, 0, none⟩) c cs0 ∧ IsT w w.heap.size s.1 A2 c2 ∧ goodS s ∧
      wr.cell? ⟨g, st.length * 5, none⟩ = some (.int .i64 s.1.k) ∧ wr.cell? ⟨g, st.length * 5 + 1, none⟩ = some (.int .i64 s.1.i) ∧ wr.cell? ⟨g, st.length * 5 + 2, none⟩ = some (.slice A2 s.1.ks.length c2) ∧ wr.cell? ⟨g, st.length * 5 + 3, none⟩ = some (.int .i64 (s.2.1 : Int)) ∧ wr.cell? ⟨g, st.length * 5 + 4, none⟩ = some (.int .u64 (s.2.2 : Int)) := by
  have hl := h.len
  have e : (st ++ [s]).length = st.length + 1 := by simp
  obtain ⟨cs0, x, rfl⟩ : ∃ cs0 x, cs = cs0 ++ [x] := by
    have : cs ≠ [] := by intro e'; rw [e'] at hl; simp at hl
    exact ⟨cs.dropLast, cs.getLast this, (List.dropLast_concat_getLast this).symm⟩
  obtain ⟨A2, c2⟩ := x
  have hl0 : cs0.length = st.length := by simpa using hl
  have own := h.own
  rw [rowS_append st cs0 s A2 c2 hl0] at own
  obtain ⟨g, cap, hv, hg1, hg2⟩ := own.form (by omega)
  cases hv
  have hlen := rowS_len st cs0 hl0
  have hc : ∀ j u, [Value.int .i64 s.1.k, .int .i64 s.1.i, .slice A2 s.1.ks.length c2, .int .i64 (s.2.1 : Int), .int .u64 (s.2.2 : Int)][j]? = some u → wr.cell? ⟨g, st.length * 5 + j, none⟩ = some u := by
    intro j u hj
    have hjl : j < 5 := by
      have := (List.getElem?_eq_some_iff.1 hj).1
      simpa using this
    have := own.cellAt (st.length * 5 + j) (by rw [e]; omega)
    rw [this, List.getElem?_append_right (by omega), hlen]
    rw [show st.length * 5 + j - st.length * 5 = j by omega]
    exact hj
  have hcap : st.length + 1 ≤ c := by
    rcases own.2 with ⟨e', _⟩ | ⟨g', cap', cur, e', _, _, hc', _⟩
    · cases e'
    · cases e'; rw [e] at hc'; exact hc'
  have ht := h.tree st.length (by rw [e]; omega)
  refine ⟨g, cs0, A2, c2, rfl, hg1, hg2, hcap, ⟨h.below, hl0, ?_, fun m hm => ?_, fun s' hs' => h.good s' (by simp [hs'])⟩, ?_, h.good s (by simp), by simpa using hc 0 _ rfl, hc 1 _ rfl, hc 2 _ rfl, hc 3 _ rfl, hc 4 _ rfl⟩
  · refine ownsRow_pop hlen (last := [.int .i64 s.1.k, .int .i64 s.1.i, .slice A2 s.1.ks.length c2, .int .i64 (s.2.1 : Int), .int .u64 (s.2.2 : Int)]) ?_
    rw [e] at own
    exact own
  · have := h.tree m (by rw [e]; omega)
    simpa [List.getElem_append_left hm, List.getElem_append_left (show m < cs0.length by omega)] using this
  · simpa [hl0, List.getElem_append_right] using ht
theorem IsS.push {w wr w4 : World} {st : List Spot} {s : Spot} {A : Option Addr} {c : Nat} {cs : List (Option Addr × Nat)} {A2 : Option Addr} {c2 g cap : Nat} {wx : World} (h : IsS w wr st A c cs) (ht : IsT w w.heap.size s.1 A2 c2) (hgd : goodS s) (hx : Below wr.heap.size wr wx)
    (hown : w4.ownsRow (w.heap.size + 1) 153 5 (.slice (some ⟨g, 0, none⟩) (st.length + 1) cap) (st.length + 1) (rowS st cs ++ [.int .i64 s.1.k, .int .i64 s.1.i, .slice A2 s.1.ks.length c2, .int .i64 (s.2.1 : Int), .int .u64 (s.2.2 : Int)])) (hg : wx.grownBy w4 (Value.slice A st.length c).ownBlock) :
    IsS w w4 (st ++ [s]) (some ⟨g, 0, none⟩) cap (cs ++ [(A2, c2)]) := by
  have e : (st ++ [s]).length = st.length + 1 := by simp
  have hlt := h.own.lt
  have hz := h.below.size
  refine ⟨?_, by simp [h.len], by rw [e, rowS_append _ _ _ _ _ h.len]; exact hown, fun m hm => ?_, fun s' hs' => ?_⟩
  · refine (h.below.trans (hx.mono h.below.size)).trans ⟨hg.os, hg.tape, hg.output, hg.size, fun k hk => hg.block k ?_ ?_⟩
    · have := hx.size; omega
    · intro e'
      have := (hlt k e'.symm).1
      omega
  · rcases Nat.lt_or_ge m st.length with h1 | h1
    · have := h.tree m h1
      simpa [List.getElem_append_left h1, List.getElem_append_left (show m < cs.length by rw [h.len]; exact h1)] using this
    · obtain rfl : m = st.length := by rw [e] at hm; omega
      simpa [h.len, List.getElem_append_right] using ht
  · rcases List.mem_append.1 hs' with h1 | h1
    · exact h.good s' h1
    · simp at h1; rw [h1]; exact hgd
/-- how far the count has come -/
structure Cnt (a : Tr) (l : List (Int × Tr)) (st : List Spot) (sz dp : Nat) : Prop where
  size : sz + spS l st = (putE l a 0).sz
  deep : ∀ M, (dp ≤ M ∧ spD l st M) ↔ dpP l 1 a 0 ≤ M
  low : dp ≤ 200
  few : spN st ≤ 1000
theorem Cnt.some {a : Tr} {l : List (Int × Tr)} {st : List Spot} {s : Spot} {sz dp : Nat} {u : Tr} (h : Cnt a l (st ++ [s]) sz dp) (hk : lookE l s.2.2 s.1.k s.1.i = some u) (hs : goodS s) (hu : u.dp ≤ 100) : Cnt a l (st ++ kidSp s.1 s.2.1 s.2.2) (sz + u.sz) (max dp (s.2.1 - 1 + u.dp)) := by
  have hks : kidSp s.1 s.2.1 s.2.2 = [] := by unfold kidSp; rw [(shp_varT hs.1 (lookE_var hk).1).1]; rfl
  rw [hks, List.append_nil]
  have hd := dp_pos s.1
  refine ⟨?_, fun M => ?_, ?_, ?_⟩
  · rw [← h.size, spS_append]
    have : spS l [s] = u.sz := by unfold spS; simp [putE_some hk]
    omega
  · rw [← h.deep M]
    have e : dpP l s.2.1 s.1 s.2.2 = s.2.1 - 1 + u.dp := dpP_some hk
    constructor
    · rintro ⟨h1, h2⟩
      refine ⟨by omega, fun q hq => ?_⟩
      rcases List.mem_append.1 hq with h3 | h3
      · exact h2 q h3
      · simp at h3; subst h3; rw [e]; omega
    · rintro ⟨h1, h2⟩
      have := h2 s (by simp)
      rw [e] at this
      exact ⟨by omega, fun q hq => h2 q (by simp [hq])⟩
  · have := h.low
    have := hs.2.2.1
    omega
  · have := h.few
    rw [spN_append] at this
    omega
theorem Cnt.none {a : Tr} {l : List (Int × Tr)} {st : List Spot} {s : Spot} {sz dp : Nat} (h : Cnt a l (st ++ [s]) sz dp) (hk : lookE l s.2.2 s.1.k s.1.i = none) : Cnt a l (st ++ kidSp s.1 s.2.1 s.2.2) (sz + 1) dp := by
  refine ⟨?_, fun M => ?_, h.low, ?_⟩
  · rw [← h.size, spS_append, spS_append]
    have : spS l [s] = 1 + spS l (kidSp s.1 s.2.1 s.2.2) := by
      have := spS_kids (d := s.2.1) hk
      unfold spS at *
      simpa using this
    omega
  · rw [← h.deep M]
    have e : dpP l s.2.1 s.1 s.2.2 ≤ M ↔ ∀ q ∈ kidSp s.1 s.2.1 s.2.2, dpP l q.2.1 q.1 q.2.2 ≤ M := by
      rw [dpP_none hk, dpGo_le]
      unfold kidSp
      simp
    constructor
    · rintro ⟨h1, h2⟩
      refine ⟨h1, fun q hq => ?_⟩
      rcases List.mem_append.1 hq with h3 | h3
      · exact h2 q (by simp [h3])
      · simp at h3; subst h3; exact e.2 fun p hp => h2 p (by simp [hp])
    · rintro ⟨h1, h2⟩
      refine ⟨h1, fun q hq => ?_⟩
      rcases List.mem_append.1 hq with h3 | h3
      · exact h2 q (by simp [h3])
      · exact e.1 (h2 s (by simp)) q h3
  · have := h.few
    rw [spN_append] at *
    have h1 := spN_kids s.1 s.2.1 s.2.2
    have : spN [s] = s.1.sz := by simp [spN]
    omega
theorem Cnt.drop {a : Tr} {l : List (Int × Tr)} {st : List Spot} {s : Spot} {sz dp : Nat} (h : Cnt a l (st ++ [s]) sz dp) : spN (st ++ kidSp s.1 s.2.1 s.2.2) < spN (st ++ [s]) := by
  rw [spN_append, spN_append]
  have h1 := spN_kids s.1 s.2.1 s.2.2
  have : spN [s] = s.1.sz := by simp [spN]
  omega
def measN (l : List (Int × Tr)) (a : Tr) : Nat := if 1000 < (putE l a 0).sz then 20 else if 100 < (putE l a 0).dp then 21 else 0
theorem Cnt.many {a : Tr} {l : List (Int × Tr)} {st : List Spot} {sz dp : Nat} (h : Cnt a l st sz dp) (hs : 1000 < sz) : measN l a = 20 := by
  have := h.size
  unfold measN
  rw [if_pos (by omega)]
theorem Cnt.done {a : Tr} {l : List (Int × Tr)} {sz dp : Nat} (h : Cnt a l [] sz dp) (hs : sz ≤ 1000) (ha : a.dp ≤ 100) : measN l a = if 100 < dp then 21 else 0 := by
  have h1 := h.size
  have h2 : spS l [] = 0 := by simp [spS]
  have h3 := h.deep 100
  have h4 := dpP_iff l 100 a 1 0 (Nat.le_refl _) (by omega)
  have h5 : spD l [] 100 := by intro s hs; simp at hs
  unfold measN
  rw [if_neg (by omega)]
  by_cases hd : 100 < dp
  · rw [if_pos hd]
    have : ¬ dpP l 1 a 0 ≤ 100 := fun e => by have := (h3.2 e).1; omega
    rw [h4] at this
    rw [if_pos (by omega)]
  · rw [if_neg hd]
    have := h3.1 ⟨by omega, h5⟩
    rw [h4] at this
    rw [if_neg (by omega)]
theorem Cnt.start {a : Tr} {l : List (Int × Tr)} (ha : a.sz ≤ 1000) : Cnt a l [(a, 1, 0)] 0 0 := by
  refine ⟨by simp [spS], fun M => ?_, by omega, by simp [spN]; exact ha⟩
  unfold spD
  simp
theorem kid_good {s : Spot} (h : goodS s) {q : Tr} (hq : q ∈ s.1.ks) : goodS (q, s.2.1 + 1, bdB s.1.k s.1.i s.2.2) := by
  refine ⟨shp_kid h.1 hq, by show 1 ≤ s.2.1 + 1; omega, ?_, bdB_U h.2.2.2⟩
  have h1 := h.2.2.1
  have h2 := dpL_le.1 (Nat.le_refl (dpL s.1.ks)) q hq
  rw [dp_eq] at h1
  show s.2.1 + 1 - 1 + q.dp ≤ 100
  omega
theorem below_alloc' (w : World) (o : Obj) : Below w.heap.size w (w.alloc o) := (Below.refl _ _).alloc (Nat.le_refl _) _
theorem IsS.start {w : World} {a : Tr} {A : Option Addr} {c : Nat} (ha : IsT w w.heap.size a A c) (hg : goodS (a, 1, 0)) :
    IsS w ((w.alloc (.cells #[.int .i64 a.k, .int .i64 a.i, .slice A a.ks.length c] 24)).alloc (.cells #[.int .i64 a.k, .int .i64 a.i, .slice A a.ks.length c, .int .i64 1, .int .u64 0] 153)) [(a, 1, 0)] (some ⟨w.heap.size + 1, 0, none⟩) 1 [(A, c)] := by
  refine ⟨(below_alloc' w _).trans ((below_alloc' _ _).mono (by simp)), rfl, ⟨rfl, .inr ⟨w.heap.size + 1, 1, #[.int .i64 a.k, .int .i64 a.i, .slice A a.ks.length c, .int .i64 1, .int .u64 0], rfl, Nat.le_refl _, ?_, Nat.le_refl _, by unfold maxLen; omega, rfl, rfl⟩⟩, fun m hm => ?_, fun s hs => ?_⟩
  · show ((w.heap.push _).push _)[w.heap.size + 1]? = _
    rw [Array.getElem?_push, if_pos (by simp)]
  · obtain rfl : m = 0 := by simpa using hm
    exact ha
  · simp at hs; rw [hs]; exact hg
/-- what is held while the depth is reckoned -/
structure Reg9 (w1 w2 : World) (sb : Nat) (u : Tr) (A3 : Option Addr) (c3 : Nat) (t : Tr) (A2 : Option Addr) (c2 d bd : Nat) (W : World) : Prop where
  tb : Box3 W w1.heap.size (.int .i64 u.k) (.int .i64 u.i) (.slice A3 u.ks.length c3)
  nb : BoxS W sb (.int .i64 t.k) (.int .i64 t.i) (.slice A2 t.ks.length c2) (.int .i64 (d : Int)) (.int .u64 (bd : Int))
  tree : IsT W W.heap.size u A3 c3
  below : Below w2.heap.size w2 W
theorem Reg9.keep {w1 w2 W W' : World} {sb : Nat} {u : Tr} {A3 : Option Addr} {c3 : Nat} {t : Tr} {A2 : Option Addr} {c2 d bd : Nat} (h : Reg9 w1 w2 sb u A3 c3 t A2 c2 d bd W) (hb : Below W.heap.size W W') : Reg9 w1 w2 sb u A3 c3 t A2 c2 d bd W' :=
  ⟨h.tb.keep hb h.tb.lt, h.nb.keep hb h.nb.lt, h.tree.keep hb hb.size, h.below.trans (hb.mono h.below.size)⟩
/-- what is held while a kid is laid onto the stack -/
structure Reg15 (wx : World) (sb : Nat) (q : Tr) (A' : Option Addr) (c' : Nat) (t : Tr) (A2 : Option Addr) (c2 d bd : Nat) (W : World) : Prop where
  kid : Box3 W wx.heap.size (.int .i64 q.k) (.int .i64 q.i) (.slice A' q.ks.length c')
  nb : BoxS W sb (.int .i64 t.k) (.int .i64 t.i) (.slice A2 t.ks.length c2) (.int .i64 (d : Int)) (.int .u64 (bd : Int))
  below : Below wx.heap.size wx W
theorem Reg15.keep {wx W W' : World} {sb : Nat} {q : Tr} {A' : Option Addr} {c' : Nat} {t : Tr} {A2 : Option Addr} {c2 d bd : Nat} (h : Reg15 wx sb q A' c' t A2 c2 d bd W) (hb : Below W.heap.size W W') : Reg15 wx sb q A' c' t A2 c2 d bd W' :=
  ⟨h.kid.keep hb h.kid.lt, h.nb.keep hb h.nb.lt, h.below.trans (hb.mono h.below.size)⟩
theorem Reg15.alloc {wx W : World} {sb : Nat} {q : Tr} {A' : Option Addr} {c' : Nat} {t : Tr} {A2 : Option Addr} {c2 d bd : Nat} (h : Reg15 wx sb q A' c' t A2 c2 d bd W) (o : Obj) : Reg15 wx sb q A' c' t A2 c2 d bd (W.alloc o) := h.keep (below_alloc' _ _)
set_option maxHeartbeats 8000000 in
set_option maxRecDepth 100000 in
theorem measure_any (a : Tr) (A : Option Addr) (c : Nat) (l : List (Int × Tr)) (Al : Option Addr) (cl : Nat) (hlr : ∀ p ∈ l, rightN p.2 = 0) (har : rightN a = 0) (w : World) (ha : IsT w w.heap.size a A c) (hp : IsP w w.heap.size l Al cl) :
    Calls Try.prog 104 #[.agg #[.int .i64 a.k, .int .i64 a.i, .slice A a.ks.length c], .slice Al l.length cl] w fun e w' => e = .returned (.int .i64 ((measN l a : Nat) : Int)) ∧ Below w.heap.size w w' := by
  obtain ⟨hshp, hsz, hdp⟩ := right_shp' har
  have HLR := Lib.hid hlr
  have HP := Lib.hid hp
  have CNT0 := Lib.hid (Cnt.start (l := l) hsz)
  have hb0 := below_alloc' w (.cells #[.int .i64 a.k, .int .i64 a.i, .slice A a.ks.length c] 24)
  obtain ⟨y0, y1, y2⟩ := box_new w (.int .i64 a.k) (.int .i64 a.i) (.slice A a.ks.length c) 24
  have GS0 : goodS (a, 1, 0) := ⟨hshp, Nat.le_refl _, by show 1 - 1 + a.dp ≤ 100; omega, zero_U⟩
  have START := Lib.hid (IsS.start ha GS0)
  obtain ⟨i0, hi, hz0, hz1, hz2⟩ := info_parts infoSp
  have HI := Lib.hid (And.intro hi (And.intro hz0 (And.intro hz1 hz2)))
  clear hi hz0 hz1 hz2 hlr hp har hshp GS0
  go_enter Try.func104, Try.ntmps104
  go_wp2_with fail
  go_step3
  go_wp2_with fail
  go_step3
  go_wp2_with fail
  go_loopg [5, 6, 7] a.sz (fun g s5 s6 s7 wx => ∃ (sz dp : Nat) (st : List Spot) (A1 : Option Addr) (c1 : Nat) (cs : List (Option Addr × Nat)), spN st = g ∧ s5 = .int .i64 (sz : Int) ∧ s6 = .int .i64 (dp : Int) ∧ s7 = .slice A1 st.length c1 ∧ sz ≤ 1000 ∧ Cnt a l st sz dp ∧ IsS w wx st A1 c1 cs)
  case atStart => exact ⟨0, 0, [(a, 1, 0)], _, _, _, by simp [spN], rfl, rfl, rfl, by omega, CNT0.out, START.out⟩
  case round =>
    obtain ⟨wo, rfl⟩ : ∃ wo, wo = wr := ⟨_, rfl⟩
    obtain ⟨sz, dp, st, A1, c1, cs, rfl, rfl, rfl, rfl, hszl, hC, hS⟩ := hrel
    have CC := Lib.hid hC
    have SS := Lib.hid hS
    have hlow := hC.low
    clear hC hS START CNT0 y0 y1 y2
    rcases List.eq_nil_or_concat st with rfl | ⟨st0, s, rfl⟩
    · have F := Lib.hid (CC.out.done hszl hdp)
      have BB := Lib.hid SS.out.below
      have hs1 : ¬ (1000 : Int) < (sz : Int) := by omega
      by_cases hd : 100 < dp
      · rw [if_pos hd] at F
        have hd' : (100 : Int) < (dp : Int) := by omega
        go_wp2_with fail
        try rw [Exit.noGoto_ret]
        go_ret
        exact ⟨by rw [F.out]; rfl, BB.out⟩
      · rw [if_neg hd] at F
        have hd' : ¬ (100 : Int) < (dp : Int) := by omega
        go_wp2_with fail
        try rw [Exit.noGoto_ret]
        go_ret
        exact ⟨by rw [F.out]; rfl, BB.out⟩
    · rw [List.concat_eq_append] at CC SS ⊢
      have DRP := Lib.hid CC.out.drop
      obtain ⟨g, cs0, A2, c2, rfl, hg1, hg2, hcap, hS0, hT, hgd, p0, p1, p2, p3, p4⟩ := SS.out.pop
      have hfew := CC.out.few
      have hlen := spN_len (st0 ++ [s])
      have e : (st0 ++ [s]).length = st0.length + 1 := by simp
      rw [e] at hlen
      rw [e]
      have S0 := Lib.hid hS0
      have TT := Lib.hid hT
      have GD := Lib.hid hgd
      obtain ⟨hgs, hg3, hg4, hgu⟩ := hgd
      have hdpp := dp_pos s.1
      have hlT := hT.len
      have BR := Lib.hid hS0.below
      clear SS hS0 hT e
      obtain ⟨n, hn⟩ : ∃ n, n = st0.length := ⟨_, rfl⟩
      rw [← hn] at p0 p1 p2 p3 p4 hcap hlen ⊢
      have HN := Lib.hid hn
      obtain ⟨t, d, bd⟩ := s
      simp only at p0 p1 p2 p3 p4 hg3 hg4 hgu hdpp hlT
      have NB := Lib.hid (BoxS.new wo (.int .i64 t.k) (.int .i64 t.i) (.slice A2 t.ks.length c2) (.int .i64 (d : Int)) (.int .u64 (bd : Int)))
      have hal : ∀ o, Below wo.heap.size wo (wo.alloc o) := fun o => below_alloc' wo o
      have PW := Lib.hid (fun o => (HP.out.up BR.out).up (hal o))
      have hn1 : (0 : Int) < (n : Int) + 1 := by omega
      obtain ⟨n0, n1, n2, n3, n4⟩ := NB.out.cells
      have HAL := Lib.hid hal
      clear hal hn
      go_wp2_with fail
      refine (termFor_any t.k t.i A2 t.ks.length c2 l Al cl bd _ hgu (by exact PW.out _)).mono ?_
      rintro e w1 ⟨hb1, hr⟩
      have hs1 := hb1.size
      simp only [World.size_alloc] at hs1
      have NB1 := Lib.hid (NB.out.keep hb1 (by simp))
      have S1 := Lib.hid ((S0.out.keep (HAL.out _)).keep hb1)
      have W1 := Lib.hid (((HAL.out (.cells #[.int .i64 t.k, .int .i64 t.i, .slice A2 t.ks.length c2, .int .i64 (d : Int), .int .u64 (bd : Int)] 153)).mono BR.out.size).trans (hb1.mono (by have := BR.out.size; simp; omega)))
      clear n0 n1 n2 n3 n4 p0 p1 p2 p3 p4
      cases hk : lookE l bd t.k t.i with
      | some u =>
        rw [hk] at hr
        obtain ⟨A3, c3, rfl, hu⟩ := hr
        have hur := right_shp' (HLR.out _ (lookP_mem (lookE_var hk).2.2))
        have CN := Lib.hid (CC.out.some hk GD.out hur.2.2)
        have hk1 : t.ks = [] := (shp_varT hgs (lookE_var hk).1).1
        have KS := Lib.hid (show kidSp t d bd = [] by unfold kidSp; rw [hk1]; rfl)
        obtain ⟨_, hu1, hu2⟩ := hur
        have UT := Lib.hid (fun o => (hu.keep hb1 hb1.size).keep (below_alloc' w1 o) (below_alloc' w1 o).size)
        have hup := sz_pos u
        clear hb1 hk hu
        go_wp2_with fail
        refine (size_small u A3 c3 _ (by exact UT.out _) hu1).mono ?_
        rintro e w2 ⟨rfl, hb2⟩
        have hs2 := hb2.size
        simp only [World.size_alloc] at hs2
        have TB := Lib.hid ((Box3.new w1 (.int .i64 u.k) (.int .i64 u.i) (.slice A3 u.ks.length c3)).keep hb2 (by simp))
        have NB2 := Lib.hid ((NB1.out.keep (below_alloc' w1 _) NB1.out.lt).keep hb2 (by simp; have := NB1.out.lt; omega))
        have UT2 := Lib.hid ((UT.out _).keep hb2 hb2.size)
        have S2 := Lib.hid ((S1.out.keep (below_alloc' w1 _)).keep hb2)
        clear hb2
        go_wp2_with fail
        have TK : Reg9 w1 w2 wo.heap.size u A3 c3 t A2 c2 d bd w2.drew := ⟨TB.out.keep ((Below.refl _ _).drew) TB.out.lt, NB2.out.keep ((Below.refl _ _).drew) NB2.out.lt, UT2.out.keep ((Below.refl _ _).drew) (Nat.le_refl _), (Below.refl _ _).drew⟩
        have hd1 : (1 : Int) ≤ (d : Int) := by omega
        have hd2 : (d : Int) ≤ 100 := by omega
        have wr1 : IntKind.i64.wrap ((d : Int) - 1) = (d : Int) - 1 := by rw [IntKind.wrap_i64]; omega
        have wr2 : IntKind.i64.wrap ((d : Int) - 1 + (u.dp : Int)) = (d : Int) - 1 + (u.dp : Int) := by rw [IntKind.wrap_i64]; omega
        have mx : (if (dp : Int) < (d : Int) - 1 + (u.dp : Int) then (d : Int) - 1 + (u.dp : Int) else (dp : Int)) = ((max dp (d - 1 + u.dp) : Nat) : Int) := by split <;> omega
        have hu3 : (u.dp : Int) ≤ 100 := by omega
        have hmin : min u.dp 101 = u.dp := by omega
        go_region_held3 (fun w' => w'.cell? ⟨wo.heap.size, 3, none⟩ = some (.int .i64 (d : Int)) ∧ w'.cell? ⟨w1.heap.size, 0, none⟩ = some (.int .i64 u.k) ∧ w'.cell? ⟨w1.heap.size, 1, none⟩ = some (.int .i64 u.i) ∧ w'.cell? ⟨w1.heap.size, 2, none⟩ = some (.slice A3 u.ks.length c3))
          (exact ⟨TK.nb.cells.2.2.2.1, TK.tb.cells⟩)
          (first
            | (go_at_call 136; refine (depth_small u A3 c3 _ (by exact TK.tree) hu1).mono ?_; rintro e w3 ⟨rfl, hb3⟩; rw [hmin]; replace TK := TK.keep hb3; clear hb3))
        have S3 := Lib.hid (S2.out.keep TK.below)
        have hlw := CN.out.low
        obtain ⟨dp', hdp'⟩ : ∃ dp', dp' = max dp (d - 1 + u.dp) := ⟨_, rfl⟩
        rw [← hdp'] at CN hlw ⊢
        rw [KS.out, List.append_nil] at CN DRP
        obtain ⟨k0, k1, k2, k3, k4⟩ := TK.nb.cells
        clear hdp' mx wr1 wr2 hmin
        by_cases hbig : 1000 < sz + u.sz
        · have F := Lib.hid (CN.out.many hbig)
          have hbig' : (1000 : Int) < (sz : Int) + (u.sz : Int) := by omega
          go_wp2_with fail
          try rw [Exit.noGoto_ret]
          go_ret
          exact ⟨by rw [F.out]; rfl, S3.out.below⟩
        · have hbig' : ¬ (1000 : Int) < (sz : Int) + (u.sz : Int) := by omega
          go_wp2_with fail
          go_loopw [7, 60] (fun p i wx => p = .slice (some ⟨g, 0, none⟩) n c1 ∧ i = .int .i64 0 ∧ wx = w3) (fun _ _ _ => 0)
          case atStart => exact ⟨rfl, rfl, rfl⟩
          case round =>
            obtain ⟨rfl, rfl, rfl⟩ := hrel
            go_wp2_with fail
            go_roundg (spN st0)
            case measure => rw [List.concat_eq_append]; exact DRP.out
            case rel => exact ⟨sz + u.sz, dp', st0, _, _, _, rfl, by first | rfl | simp, rfl, by rw [HN.out], by omega, CN.out, S3.out⟩
      | none =>
        rw [hk] at hr
        obtain rfl := hr
        have CN := Lib.hid (CC.out.none hk)
        have hkl := (kind_of_shp t hgs).2.2.2.2
        have KG := Lib.hid (fun q hq => kid_good (s := (t, d, bd)) GD.out (q := q) hq)
        have S2 := Lib.hid (S1.out.keep (below_alloc' w1 (.cells #[.int .i64 0, .int .i64 0, .slice none 0 0] 24)))
        have NB2 := Lib.hid (NB1.out.keep (below_alloc' w1 (.cells #[.int .i64 0, .int .i64 0, .slice none 0 0] 24)) NB1.out.lt)
        obtain ⟨k0, k1, k2, k3, k4⟩ := NB2.out.cells
        clear hb1 hk
        by_cases hbig : 1000 < sz + 1
        · have F := Lib.hid (CN.out.many hbig)
          have hbig' : (1000 : Int) < (sz : Int) + 1 := by omega
          go_wp2_with fail
          try rw [Exit.noGoto_ret]
          go_ret
          exact ⟨by rw [F.out]; rfl, S2.out.below⟩
        · have hbig' : ¬ (1000 : Int) < (sz : Int) + 1 := by omega
          go_wp2_with fail
          go_loopw [7, 60] (fun p i wx => ∃ (m : Nat) (A4 : Option Addr) (c4 : Nat) (cs4 : List (Option Addr × Nat)), m ≤ t.ks.length ∧ i = .int .i64 m ∧ p = .slice A4 (n + m) c4 ∧ IsS w wx (st0 ++ (kidSp t d bd).take m) A4 c4 cs4 ∧ BoxS wx wo.heap.size (.int .i64 t.k) (.int .i64 t.i) (.slice A2 t.ks.length c2) (.int .i64 (d : Int)) (.int .u64 (bd : Int)) ∧ (∀ g', (Value.slice A4 (n + m) c4).ownBlock = some g' → g' ≠ wo.heap.size)) (fun _ i _ => t.ks.length - (intOf i).toNat)
          case atStart => exact ⟨0, _, _, _, Nat.zero_le _, rfl, rfl, by rw [List.take_zero, List.append_nil]; exact S2.out, NB2.out, fun g' e => by have : g = g' := (by simpa [Value.ownBlock] using e); omega⟩
          case round =>
            obtain ⟨m, A4, c4, cs4, hm', rfl, rfl, hSm, hNB, hgn⟩ := hrel
            have SM := Lib.hid hSm
            have NBM := Lib.hid hNB
            have GN := Lib.hid hgn
            have hll : (st0 ++ (kidSp t d bd).take m).length = n + m := by rw [List.length_append, List.length_take, ← HN.out]; unfold kidSp; rw [List.length_map]; omega
            have bel := hSm.below
            have hown := hSm.own
            rw [hll] at hown
            have OWN := Lib.hid (fun (W : World) (h : Below wr.heap.size wr W) => ownsRow_same (hi := wr.heap.size) (w' := W) hown (fun k _ k2 => h.block k k2) (fun g e => (hown.lt g e).2))
            have OLT := Lib.hid hown.lt
            have PUSH := Lib.hid (fun (s : Spot) (w4 wy : World) (A2 : Option Addr) (c2 g cap : Nat) => @IsS.push w wr w4 _ s A4 c4 cs4 A2 c2 g cap wy hSm)
            rw [hll] at PUSH
            clear hSm hNB hgn hown k0 k1 k2 k3 k4
            by_cases hlt : m < t.ks.length
            · obtain ⟨b, o, A', c', rfl, hlt', p0, p1, p2, hkT⟩ := TT.out.kid m hlt
              have KT := Lib.hid (kidSp_take t d bd m hlt)
              have GQ := Lib.hid (KG.out t.ks[m] (List.getElem_mem hlt))
              obtain ⟨q, hq⟩ : ∃ q, q = t.ks[m] := ⟨_, rfl⟩
              rw [← hq] at p0 p1 p2 hkT KT GQ
              have HKT := Lib.hid hkT
              have d0 := (bel.cell hlt').trans p0
              have d1 := (bel.cell hlt').trans p1
              have d2 := (bel.cell hlt').trans p2
              have ha := below_alloc' wr (.cells #[.int .i64 q.k, .int .i64 q.i, .slice A' q.ks.length c'] 24)
              have TK : Reg15 wr wo.heap.size q A' c' t (some ⟨b, o, none⟩) c2 d bd (wr.alloc (.cells #[.int .i64 q.k, .int .i64 q.i, .slice A' q.ks.length c'] 24)).drew :=
                (Reg15.mk (Box3.new _ _ _ _) (NBM.out.keep ha NBM.out.lt) ha).keep ((Below.refl _ _).drew)
              have hd2 : (d : Int) ≤ 100 := by omega
              have wr1 : IntKind.i64.wrap ((d : Int) + 1) = (d : Int) + 1 := by rw [IntKind.wrap_i64]; omega
              obtain ⟨bd', hbd'⟩ : ∃ bd', bd' = bdB t.k t.i bd := ⟨_, rfl⟩
              rw [← hbd'] at KT GQ
              have HBD := Lib.hid hbd'
              have hnbl := NBM.out.lt
              have hbz := bel.size
              clear p0 p1 p2 hkT hq hbd'
              go_wp2_with fail
              go_region_held3 (fun w' => (w'.cell? ⟨wr.heap.size, 0, none⟩ = some (.int .i64 q.k) ∧ w'.cell? ⟨wr.heap.size, 1, none⟩ = some (.int .i64 q.i) ∧ w'.cell? ⟨wr.heap.size, 2, none⟩ = some (.slice A' q.ks.length c')) ∧ (w'.cell? ⟨wo.heap.size, 0, none⟩ = some (.int .i64 t.k) ∧ w'.cell? ⟨wo.heap.size, 1, none⟩ = some (.int .i64 t.i) ∧ w'.cell? ⟨wo.heap.size, 2, none⟩ = some (.slice (some ⟨b, o, none⟩) t.ks.length c2) ∧ w'.cell? ⟨wo.heap.size, 3, none⟩ = some (.int .i64 (d : Int)) ∧ w'.cell? ⟨wo.heap.size, 4, none⟩ = some (.int .u64 (bd : Int))))
                (first | exact ⟨TK.kid.cells, TK.nb.cells⟩ | exact ⟨(TK.alloc _).kid.cells, (TK.alloc _).nb.cells⟩ | exact ⟨K4.out.1.cells, K4.out.2.cells⟩)
                (first
                  | (go_at_call 137; refine (sbound_any t.k t.i (some ⟨b, o, none⟩) t.ks.length c2 bd _ hgu).mono ?_; rintro e w3 ⟨rfl, hb3⟩; rw [← HBD.out]; replace TK := TK.keep hb3; clear hb3)
                  | (refine step_append_lies _ rfl _ _ _ rfl (w.heap.size + 1) 153 i0 _ 5 56 Try.underlying154 HI.out.1 HI.out.2.1 HI.out.2.2.1 HI.out.2.2.2 (by rfl) (by omega) (.slice A4 (n + m) c4) (n + m) (rowS (st0 ++ (kidSp t d bd).take m) cs4) (by rfl) (by exact OWN.out _ (TK.alloc _).below) ⟨w3.heap.size, 0, none⟩ 1 1 [.int .i64 q.k, .int .i64 q.i, .slice A' q.ks.length c', .int .i64 ((d : Int) + 1), .int .u64 (bd' : Int)] (by rfl) (by rfl) (by exact news5s _ _ _ _ _ _ _) (by simp [Value.oneCell']) (by omega) (by unfold maxLen; omega) (by omega) (by have := TK.below.size; simp; omega) (w3.heap.size + 1) (by simp) ?_; intro g4 cap4 w4 hown4 hgrow hat hlt4; have K4 := Lib.hid (And.intro ((TK.alloc _).kid.grown hgrow (fun e => by have := OLT.out _ e.symm; omega)) ((TK.alloc _).nb.grown hgrow (fun e => GN.out _ e.symm rfl))); have HO4 := Lib.hid hown4; have HG4 := Lib.hid hgrow; have HAT := Lib.hid hat; clear hown4 hgrow hat))
              have NS := Lib.hid (PUSH.out (q, d + 1, bd') w4 _ A' c' g4 cap4 HKT.out GQ.out (TK.alloc _).below HO4.out HG4.out)
              have NG := Lib.hid (show ∀ g', (Value.slice (some ⟨g4, 0, none⟩) (n + (m + 1)) cap4).ownBlock = some g' → g' ≠ wo.heap.size from fun g' e => by
                obtain rfl : g4 = g' := by simpa [Value.ownBlock] using e
                rcases HAT.out with h | h
                · exact GN.out _ h
                · have := TK.below.size; omega)
              go_wp2_with fail
              go_roundw
              case rel => exact ⟨m + 1, _, _, _, by omega, by go_num, rfl, by rw [KT.out, ← List.append_assoc]; exact NS.out, K4.out.2, NG.out⟩
              case measure => simp [intOf]; omega
            · obtain rfl : m = t.ks.length := by omega
              have KT := Lib.hid (show (kidSp t d bd).take t.ks.length = kidSp t d bd from List.take_of_length_le (by unfold kidSp; rw [List.length_map]; exact Nat.le_refl _))
              rw [KT.out] at SM hll
              go_wp2_with fail
              go_roundg (spN (st0 ++ kidSp t d bd))
              case measure => rw [List.concat_eq_append]; exact DRP.out
              case rel => exact ⟨sz + 1, dp, st0 ++ kidSp t d bd, _, _, _, rfl, by first | rfl | simp, rfl, by rw [hll], by omega, CN.out, SM.out⟩
end Go.Proofs.Ytmmdhlemkcddmaa
