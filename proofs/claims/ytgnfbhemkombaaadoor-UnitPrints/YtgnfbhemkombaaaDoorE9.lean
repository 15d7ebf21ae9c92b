/- Right of package expr. -/
import Derived.Test.YtgnfbhemkombaaaDoorE8
import Derived.Test.YtgnfbhemkombaaaDoorE6
namespace Go.Proofs.YtgnfbhemkombaaaDoor
open Go.RowKit Go.Shelf
attribute [local go_sem] Oper.semAt_some
/-- the greatest of the depths that came, as the program reckons it -/
def deepW {w0 : World} {B : Nat} (l : List (Nd w0 B)) : Int := l.foldl (fun s x => max s (wr64 x.d)) 0
theorem deepW_snoc {w0 : World} {B : Nat} (l : List (Nd w0 B)) (x : Nd w0 B) : deepW (l ++ [x]) = max (deepW l) (wr64 x.d) := by simp [deepW]
def confW {w0 : World} {B : Nat} (l : List (Nd w0 B)) : Bool := l.all fun x => confB x.t
theorem confW_snoc {w0 : World} {B : Nat} (l : List (Nd w0 B)) (x : Nd w0 B) : confW (l ++ [x]) = (confW l && confB x.t) := by simp [confW]
theorem KB.setCell {B hi : Nat} {W : World} (p : Addr) (v : Value) (h1 : B ≤ p.block) (h2 : p.block < hi) : KB B hi W (W.setCell p v) :=
  ⟨(Below.refl _ _).setCell h1 _, fun k o hk h0 => (heap_setCell_other W p v k (by omega)).trans h0⟩
theorem boxed_below {W W' : World} {b B : Nat} {t : TypeId} {v : Value} (h : Boxed W b t v) (hb : Below B W W') (hB : b < B) : Boxed W' b t v := (hb.block b hB).trans h
theorem box3_own {β : Type} (n b : Nat) (x y z : Value) : OwnFrom n (fun (_ : β) W => Box3 W b x y z) := fun _ X Y row hs hg hrow =>
  hs.grown hg (fun e => by obtain ⟨_, o, ho, hc⟩ := hrow b e.symm; rw [show X.heap[b]? = _ from hs] at ho; cases ho; cases hc)
theorem keepsOthers_below {W W' : World} (h : Below W.heap.size W W') : KeepsOthers W W' := ⟨h.size, fun k _ hk _ => (h.block k (Array.getElem?_eq_some_iff.1 hk).1).trans hk⟩
/-- what came, all of it: size, depth and table as Right tells them -/
theorem deep_of {w0 : World} {B : Nat} {t : Tr} {ys : List (Nd w0 B)} (h : ys.map Nd.nd = t.pre 1) (hl : ys.length ≤ 1000) : deepW ys = (t.dp : Int) := by
  have step := pre_step 1 t
  rw [← h] at step
  have hx : ∀ x, x ∈ ys → x.d ≤ 1001 := by
    intro x hx
    obtain ⟨p, q, e⟩ := List.append_of_mem hx
    have := step (p.map Nd.nd) x.nd (q.map Nd.nd) (by rw [e]; simp)
    have h1 : x.d ≤ 1 + p.length := by simpa [Nd.nd] using this
    have h2 := congrArg List.length e
    simp at h2
    omega
  have aux : ∀ (l : List (Nd w0 B)) (s : Nat), (∀ x, x ∈ l → x.d ≤ 1001) → l.foldl (fun s x => max s (wr64 x.d)) (s : Int) = (((l.map Nd.nd).foldl (fun s x => max s x.1) s : Nat) : Int) := by
    intro l
    induction l with
    | nil => intro s _; rfl
    | cons x l ih =>
      intro s hm
      have h1 := hm x (by simp)
      simp only [List.foldl_cons, List.map_cons]
      rw [wr64_small _ (by omega), show max (s : Int) (x.d : Int) = ((max s x.d : Nat) : Int) by omega]
      exact ih _ (fun y hy => hm y (by simp [hy]))
  have := aux ys 0 hx
  rw [h] at this
  unfold deepW
  rw [show (0 : Int) = ((0 : Nat) : Int) from rfl, this]
  exact congrArg (fun n : Nat => (n : Int)) (deepest_pre t)
theorem conf_of {w0 : World} {B : Nat} {t : Tr} {ys : List (Nd w0 B)} (h : ys.map Nd.nd = t.pre 1) : confW ys = t.shp := by
  rw [← allConf_pre 1 t, ← h]
  simp [confW, allConf, List.all_map, Nd.nd, Function.comp_def]
theorem len_of {w0 : World} {B : Nat} {t : Tr} {ys : List (Nd w0 B)} (h : ys.map Nd.nd = t.pre 1) : ys.length = t.sz := by
  have := congrArg List.length h
  rwa [List.length_map, pre_len] at this
theorem len_of_prefix {w0 : World} {B : Nat} {t : Tr} {ys : List (Nd w0 B)} (h : ys.map Nd.nd <+: t.pre 1) : ys.length ≤ t.sz := by
  have := h.length_le
  rwa [List.length_map, pre_len] at this
/-- a box, behind the book-keeping at the return -/
theorem boxed_left {W : World} {b D : Nat} {t : TypeId} {v : Value} {o : Obj} (h : Boxed W b t v) (hK : W.heap[D]? = some o) (hc : o.isCells = false) (o' : Obj) : Boxed (W.putObj D o') b t v :=
  h.kept (grownBy_putObj' W D o') (fun e => by cases e; rw [show W.heap[b]? = _ from h] at hK; cases hK; cases hc)
theorem below_left {W w : World} {B D : Nat} {o : Obj} (h : Below B w W) (hB : B ≤ D) (hK : W.heap[D]? = some o) (o' : Obj) : Below B w (W.putObj D o') :=
  h.grown (grownBy_putObj' W D o') (by have := (Array.getElem?_eq_some_iff.1 hK).1; omega) (fun k e => by cases e; exact hB)
set_option maxRecDepth 100000 in
set_option maxHeartbeats 4000000 in
theorem right_any (t : Tr) (A : Option Addr) (c : Nat) (w : World) (ht : IsT w w.heap.size t A c) :
    Calls Tryd.prog 19 #[.agg #[.int .i64 t.k, .int .i64 t.i, .slice A t.ks.length c]] w fun e w' => e = .returned (.int .i64 (rightN t : Nat)) ∧ Below w.heap.size w w' := by
  refine (callsIn_wide (n := 5)).1 ?_
  refine callsIn_of_wp_marks Tryd.func19 rfl trivial ?_ rfl
  simp only [Tryd.ntmps19, List.size_toArray, List.length_cons, List.length_nil, Nat.reduceAdd, Nat.reduceSub, Array.replicate_succ, Array.replicate_zero, List.push_toArray, List.append_toArray, List.nil_append, List.cons_append]
  gi_wp2_with ((try refine ⟨trivial, ?_⟩); gi_at_call 43; refine (nodes_in Fence.wide 4 trivial rfl _ _ _ _ _ _).mono ?_; rintro e w' ⟨rfl, rfl⟩)
  obtain ⟨W0, hW0⟩ : ∃ W0, (((((w.alloc (.cells #[.int .i64 t.k, .int .i64 t.i, .slice A t.ks.length c] 24)).alloc (.cells #[.int .i64 0] 25)).alloc (.cells #[.int .i64 0] 3)).alloc (.cells #[.int .i64 0] 3)).alloc (.cells #[.bool true] 4)).alloc (.cells #[.int .i64 t.k, .int .i64 t.i, .slice A t.ks.length c] 24) = W0 := ⟨_, rfl⟩
  have b1 := ((((Boxed.new (w.alloc (.cells #[.int .i64 t.k, .int .i64 t.i, .slice A t.ks.length c] 24)) 25 (.int .i64 0)).alloc (.cells #[.int .i64 0] 3)).alloc (.cells #[.int .i64 0] 3)).alloc (.cells #[.bool true] 4)).alloc (.cells #[.int .i64 t.k, .int .i64 t.i, .slice A t.ks.length c] 24)
  have b2 := (((Boxed.new ((w.alloc (.cells #[.int .i64 t.k, .int .i64 t.i, .slice A t.ks.length c] 24)).alloc (.cells #[.int .i64 0] 25)) 3 (.int .i64 0)).alloc (.cells #[.int .i64 0] 3)).alloc (.cells #[.bool true] 4)).alloc (.cells #[.int .i64 t.k, .int .i64 t.i, .slice A t.ks.length c] 24)
  have b3 := ((Boxed.new (((w.alloc (.cells #[.int .i64 t.k, .int .i64 t.i, .slice A t.ks.length c] 24)).alloc (.cells #[.int .i64 0] 25)).alloc (.cells #[.int .i64 0] 3)) 3 (.int .i64 0)).alloc (.cells #[.bool true] 4)).alloc (.cells #[.int .i64 t.k, .int .i64 t.i, .slice A t.ks.length c] 24)
  have b4 := (Boxed.new ((((w.alloc (.cells #[.int .i64 t.k, .int .i64 t.i, .slice A t.ks.length c] 24)).alloc (.cells #[.int .i64 0] 25)).alloc (.cells #[.int .i64 0] 3)).alloc (.cells #[.int .i64 0] 3)) 4 (.bool true)).alloc (.cells #[.int .i64 t.k, .int .i64 t.i, .slice A t.ks.length c] 24)
  have b5 := Box3.new (((((w.alloc (.cells #[.int .i64 t.k, .int .i64 t.i, .slice A t.ks.length c] 24)).alloc (.cells #[.int .i64 0] 25)).alloc (.cells #[.int .i64 0] 3)).alloc (.cells #[.int .i64 0] 3)).alloc (.cells #[.bool true] 4)) (.int .i64 t.k) (.int .i64 t.i) (.slice A t.ks.length c)
  have hB0 : Below w.heap.size w ((((((w.alloc (.cells #[.int .i64 t.k, .int .i64 t.i, .slice A t.ks.length c] 24)).alloc (.cells #[.int .i64 0] 25)).alloc (.cells #[.int .i64 0] 3)).alloc (.cells #[.int .i64 0] 3)).alloc (.cells #[.bool true] 4)).alloc (.cells #[.int .i64 t.k, .int .i64 t.i, .slice A t.ks.length c] 24)) :=
    ((((((Below.refl _ w).alloc (Nat.le_refl _) _).alloc (by simp) _).alloc (by simp; omega) _).alloc (by simp; omega) _).alloc (by simp; omega) _).alloc (by simp; omega) _
  have hsz : ((((((w.alloc (.cells #[.int .i64 t.k, .int .i64 t.i, .slice A t.ks.length c] 24)).alloc (.cells #[.int .i64 0] 25)).alloc (.cells #[.int .i64 0] 3)).alloc (.cells #[.int .i64 0] 3)).alloc (.cells #[.bool true] 4)).alloc (.cells #[.int .i64 t.k, .int .i64 t.i, .slice A t.ks.length c] 24)).heap.size = w.heap.size + 6 := by simp
  simp only [World.size_alloc] at b1 b2 b3 b4 b5
  rw [hW0] at b1 b2 b3 b4 b5 hB0 hsz ⊢
  clear hW0
  refine wpIn_rangeFunc_ownH (α := Nd w w.heap.size) rfl (by omega) (gf := 88) (lb := #[.pointer (some ⟨w.heap.size + 1 + 1 + 1 + 1 + 1, 0, none⟩)]) rfl trivial (enters_of Tryd.func88 (by kernel_rfl) rfl)
    (nodes_stops Fence.wide rfl _ trivial trivial rfl (w.heap.size + 1 + 1 + 1 + 1 + 1) w.heap.size (w.heap.size + 5) w t A c W0 (by omega) (by omega) (by omega) b5.cells ht hB0) (fun h k => h.trans k) (KB.putObj (by omega)) (Below.refl _ _) (fun _ => rfl)
    (fun pre W => (Boxed W (w.heap.size + 1 + 1) 3 (.int .i64 (pre.length : Nat)) ∧ Boxed W (w.heap.size + 1 + 1 + 1) 3 (.int .i64 (deepW pre)) ∧ Boxed W (w.heap.size + 1 + 1 + 1 + 1) 4 (.bool (confW pre)) ∧ Boxed W (w.heap.size + 1) 25 (.int .i64 0)) ∧ Below w.heap.size w W ∧ (pre.length ≤ 1000) ∧ Box3 W (w.heap.size + 1 + 1 + 1 + 1 + 1) (.int .i64 t.k) (.int .i64 t.i) (.slice A t.ks.length c))
    (fun co pre W => (Boxed W (w.heap.size + 1) 25 (.int .i64 20) ∧ Below w.heap.size w W) ∧ (co = .ret ∧ pre.length = 1001))
    ?hI ?hIx ⟨⟨b2, b3, b4, b1⟩, hB0, by simp, b5⟩
    (fun x a' W => ∃ Bx, w.heap.size + 6 ≤ Bx ∧ Box3 W Bx (.int .i64 x.t.k) (.int .i64 x.t.i) (.slice x.A x.t.ks.length x.c) ∧ a' = { tmps := #[.agg #[.int .i64 t.k, .int .i64 t.i, .slice A t.ks.length c], .pointer (some ⟨w.heap.size, 0, none⟩), .pointer (some ⟨w.heap.size + 1, 0, none⟩), .pointer (some ⟨w.heap.size + 1 + 1, 0, none⟩), .pointer (some ⟨w.heap.size + 1 + 1 + 1, 0, none⟩), .pointer (some ⟨w.heap.size + 1 + 1 + 1 + 1, 0, none⟩), .int .i64 (wr64 x.d), .pointer (some ⟨Bx, 0, none⟩), .agg #[.int .i64 t.k, .int .i64 t.i, .slice A t.ks.length c], .func (.func 88) #[] #[.pointer (some ⟨w.heap.size + 1 + 1 + 1 + 1 + 1, 0, none⟩)], .int .i64 (wr64 x.d), .agg #[.int .i64 x.t.k, .int .i64 x.t.i, .slice x.A x.t.ks.length x.c], undef, undef, undef, undef, undef, undef, undef, undef, undef, undef, undef, undef, undef, undef, undef, undef, undef, undef], defers := [] })
    ?hAx ?assign ?body ?done ?stop
  case hI =>
    exact OwnFrom.and (OwnFrom.and (Own.from (boxed_own _ _ (fun pre : List (Nd w w.heap.size) => .int .i64 (pre.length : Nat))) _) (OwnFrom.and (Own.from (boxed_own _ _ (fun pre : List (Nd w w.heap.size) => .int .i64 (deepW pre))) _) (OwnFrom.and (Own.from (boxed_own _ _ (fun pre : List (Nd w w.heap.size) => .bool (confW pre))) _) (Own.from (boxed_own _ _ (fun _ => .int .i64 0)) _)))) (OwnFrom.and (ownFrom_below (Nat.le_refl _) (by omega)) (OwnFrom.and (ownFrom_pure _ _) (box3_own _ _ _ _ _)))
  case hIx =>
    exact fun co => OwnFrom.and (OwnFrom.and (Own.from (boxed_own _ _ (fun _ => .int .i64 20)) _) (ownFrom_below (Nat.le_refl _) (by omega))) (ownFrom_pure _ _)
  case hAx =>
    rintro x a' s Wa Wb row ⟨Bx, h1, h2, h3⟩ hg hr
    refine ⟨Bx, h1, h2.grown hg (fun e => ?_), h3⟩
    obtain ⟨_, o, ho, hc⟩ := hr Bx e.symm
    rw [show Wa.heap[Bx]? = _ from h2] at ho
    cases ho
    cases hc
  case assign =>
    rintro l pre x W K ⟨⟨i2, i3, i4, i1⟩, iB, iN, i6⟩ hK
    have hs2 : w.heap.size + 6 ≤ W.heap.size := by have := i6.lt; omega
    simp only [encN, Array.zip_eq_zipWith, List.zipWith_toArray, List.foldl_toArray]
    gi_wp2
    exact hK _ _ ((KeepsOthers.alloc _ _).from _) (KB.alloc (by omega) _) ⟨⟨i2.alloc _, i3.alloc _, i4.alloc _, i1.alloc _⟩, iB.alloc iB.size _, iN, i6.keep ((Below.refl W.heap.size W).alloc (Nat.le_refl _) _) i6.lt⟩ ⟨W.heap.size, hs2, Box3.new W _ _ _, rfl⟩
  case body =>
    rintro l pre x a' W hl ⟨r, hr⟩ ⟨⟨i2, i3, i4, i1⟩, iB, iN, i6⟩ ⟨Bx, hBx, bX, rfl⟩ hlt
    have c2 := i2.cell
    have c3 := i3.cell
    have c4 := i4.cell
    have c1 := i1.cell
    have f2 := i2.frozen
    have f3 := i3.frozen
    have f4 := i4.frozen
    have f1 := i1.frozen
    obtain ⟨x0, x1, x2⟩ := bX.cells
    by_cases hN : pre.length = 1000
    · have hn1 : (1000 : Int) < (pre.length : Int) + 1 := by omega
      have HN := Lib.hid hN
      clear hN
      gi_wp2_with fail
      have q1 := (i1.other (B' := w.heap.size + 1 + 1) (by omega) (.int .i64 ((pre.length : Int) + 1))).set (.int .i64 20)
      have q2 : Below w.heap.size w ((W.setCell ⟨w.heap.size + 1 + 1, 0, none⟩ (.int .i64 ((pre.length : Int) + 1))).setCell ⟨w.heap.size + 1, 0, none⟩ (.int .i64 20)) :=
        (iB.setCell (p := ⟨w.heap.size + 1 + 1, 0, none⟩) (show w.heap.size ≤ w.heap.size + 1 + 1 by omega) _).setCell (p := ⟨w.heap.size + 1, 0, none⟩) (show w.heap.size ≤ w.heap.size + 1 by omega) _
      exact ⟨((KeepsOthers.setCell _ _ _).trans (KeepsOthers.setCell _ _ _)).from _, ⟨q1, q2⟩, rfl, by simp [HN.out]⟩
    · have hn1 : ¬ (1000 : Int) < (pre.length : Int) + 1 := by omega
      obtain ⟨mx, hmx⟩ : ∃ mx, mx = deepW (pre ++ [x]) := ⟨_, rfl⟩
      have MX := Lib.hid hmx
      obtain ⟨W1, hW1⟩ : ∃ W1, W1 = ((W.setCell ⟨w.heap.size + 1 + 1, 0, none⟩ (.int .i64 ((pre.length : Int) + 1))).setCell ⟨w.heap.size + 1 + 1 + 1, 0, none⟩ (.int .i64 mx)) := ⟨_, rfl⟩
      have k1 : KeepsOthers W W1 := by rw [hW1]; exact (KeepsOthers.setCell _ _ _).trans (KeepsOthers.setCell _ _ _)
      have k2 : KB w.heap.size (w.heap.size + 5) W W1 := by rw [hW1]; exact (KB.setCell _ _ (by show w.heap.size ≤ w.heap.size + 1 + 1; omega) (by show w.heap.size + 1 + 1 < _; omega)).trans (KB.setCell _ _ (by show w.heap.size ≤ w.heap.size + 1 + 1 + 1; omega) (by show w.heap.size + 1 + 1 + 1 < _; omega))
      have j1 : Boxed W1 (w.heap.size + 1) 25 (.int .i64 0) := by rw [hW1]; exact (i1.other (by omega) _).other (by omega) _
      have j2 : Boxed W1 (w.heap.size + 1 + 1) 3 (.int .i64 ((pre.length : Int) + 1)) := by rw [hW1]; exact (i2.set _).other (by omega) _
      have j3 : Boxed W1 (w.heap.size + 1 + 1 + 1) 3 (.int .i64 mx) := by rw [hW1]; exact (i3.other (B' := w.heap.size + 1 + 1) (by omega) _).set _
      have j4 : Boxed W1 (w.heap.size + 1 + 1 + 1 + 1) 4 (.bool (confW pre)) := by rw [hW1]; exact (i4.other (by omega) _).other (by omega) _
      have jB : Below w.heap.size w W1 := iB.trans k2.below
      have HT := Lib.hid (x.h.keep jB jB.size)
      have CS := Lib.hid (confW_snoc pre x)
      have DS := Lib.hid (deepW_snoc pre x)
      have j6 : Box3 W1 (w.heap.size + 1 + 1 + 1 + 1 + 1) (.int .i64 t.k) (.int .i64 t.i) (.slice A t.ks.length c) := by rw [hW1]; exact (i6.set_other _ _ (by show w.heap.size + 1 + 1 + 1 + 1 + 1 ≠ w.heap.size + 1 + 1; omega)).set_other _ _ (by show w.heap.size + 1 + 1 + 1 + 1 + 1 ≠ w.heap.size + 1 + 1 + 1; omega)
      clear hmx
      -- the end of the round, whatever was reckoned
      have FIN := Lib.hid (show ∀ (W2 : World) (bo : Bool), Below W1.heap.size W1 W2 → bo = confW (pre ++ [x]) → ∀ a'' : Act, ownPostG W0.heap.size (KB w.heap.size (w.heap.size + 5))
          (fun pre W => (Boxed W (w.heap.size + 1 + 1) 3 (.int .i64 (pre.length : Nat)) ∧ Boxed W (w.heap.size + 1 + 1 + 1) 3 (.int .i64 (deepW pre)) ∧ Boxed W (w.heap.size + 1 + 1 + 1 + 1) 4 (.bool (confW pre)) ∧ Boxed W (w.heap.size + 1) 25 (.int .i64 0)) ∧ Below w.heap.size w W ∧ (pre.length ≤ 1000) ∧ Box3 W (w.heap.size + 1 + 1 + 1 + 1 + 1) (.int .i64 t.k) (.int .i64 t.i) (.slice A t.ks.length c))
          (fun co pre W => (Boxed W (w.heap.size + 1) 25 (.int .i64 20) ∧ Below w.heap.size w W) ∧ (co = .ret ∧ pre.length = 1001)) (pre ++ [x]) W Exit.normal a'' (W2.setCell ⟨w.heap.size + 1 + 1 + 1 + 1, 0, none⟩ (.bool bo)) from by
        intro W2 bo h2 hbo a''
        have l4 := j4.lt
        have l6 := j6.lt
        have z1 := (boxed_below j1 h2 (by omega)).other (B' := w.heap.size + 1 + 1 + 1 + 1) (by omega) (.bool bo)
        have z2 := (boxed_below j2 h2 (by omega)).other (B' := w.heap.size + 1 + 1 + 1 + 1) (by omega) (.bool bo)
        have z3 := (boxed_below j3 h2 (by omega)).other (B' := w.heap.size + 1 + 1 + 1 + 1) (by omega) (.bool bo)
        have z4 := (boxed_below j4 h2 (by omega)).set (.bool bo)
        have z6 := (j6.keep h2 l6).set_other ⟨w.heap.size + 1 + 1 + 1 + 1, 0, none⟩ (.bool bo) (show w.heap.size + 1 + 1 + 1 + 1 + 1 ≠ w.heap.size + 1 + 1 + 1 + 1 by omega)
        have zk : KB w.heap.size (w.heap.size + 5) W (W2.setCell ⟨w.heap.size + 1 + 1 + 1 + 1, 0, none⟩ (.bool bo)) := (k2.trans (KB.of_below h2 (by omega))).trans (KB.setCell _ _ (show w.heap.size ≤ w.heap.size + 1 + 1 + 1 + 1 by omega) (show w.heap.size + 1 + 1 + 1 + 1 < w.heap.size + 5 by omega))
        refine ⟨((k1.trans (keepsOthers_below h2)).trans (KeepsOthers.setCell _ _ _)).from _, zk, ⟨?_, ?_, ?_, z1⟩, iB.trans zk.below, by simp; omega, z6⟩
        · rw [show ((pre ++ [x]).length : Int) = (pre.length : Int) + 1 by simp]; exact z2
        · rw [← MX.out]; exact z3
        · rw [← hbo]; exact z4)
      have D4 := j4.cell
      have E4 := j4.frozen
      have HW1 := Lib.hid hW1
      clear hW1
      by_cases hmx2 : deepW pre < wr64 x.d
      · have e : mx = wr64 x.d := by rw [MX.out, DS.out]; omega
        subst e
        cases hcf : confW pre with
        | false =>
          have FC := Lib.hid (show false = confW (pre ++ [x]) by rw [CS.out, hcf]; rfl)
          gi_wp2_with fail
          rw [← HW1.out]
          refine ⟨trivial, ?_⟩
          gi_wp2_with fail
          exact FIN.out W1 false (Below.refl _ _) FC.out _
        | true =>
          have FC := Lib.hid (show confB x.t = confW (pre ++ [x]) by rw [CS.out, hcf]; rfl)
          gi_wp2_with fail
          rw [← HW1.out]
          refine ⟨trivial, ?_⟩
          refine (CallsIn.inRound l (callsIn_wide.2 (conforms_any x.t x.A x.c _ (by exact HT.out)))).mono ?_
          rintro e w2 ⟨rfl, hb2⟩
          have l4 := j4.lt
          have D5 := (boxed_below j4 hb2 (by omega)).cell
          have E5 := (boxed_below j4 hb2 (by omega)).frozen
          gi_wp2_with fail
          exact FIN.out w2 _ hb2 FC.out _
      · have e : mx = deepW pre := by rw [MX.out, DS.out]; omega
        subst e
        cases hcf : confW pre with
        | false =>
          have FC := Lib.hid (show false = confW (pre ++ [x]) by rw [CS.out, hcf]; rfl)
          gi_wp2_with fail
          rw [← HW1.out]
          refine ⟨trivial, ?_⟩
          gi_wp2_with fail
          exact FIN.out W1 false (Below.refl _ _) FC.out _
        | true =>
          have FC := Lib.hid (show confB x.t = confW (pre ++ [x]) by rw [CS.out, hcf]; rfl)
          gi_wp2_with fail
          rw [← HW1.out]
          refine ⟨trivial, ?_⟩
          refine (CallsIn.inRound l (callsIn_wide.2 (conforms_any x.t x.A x.c _ (by exact HT.out)))).mono ?_
          rintro e w2 ⟨rfl, hb2⟩
          have l4 := j4.lt
          have D5 := (boxed_below j4 hb2 (by omega)).cell
          have E5 := (boxed_below j4 hb2 (by omega)).frozen
          gi_wp2_with fail
          exact FIN.out w2 _ hb2 FC.out _
  case done =>
    rintro D ys W hD hS ⟨⟨i2, i3, i4, i1⟩, iB, iN, i6⟩ hK
    have c2 := i2.cell
    have c3 := i3.cell
    have c4 := i4.cell
    have c1 := i1.cell
    have f1 := i1.frozen
    have LN := Lib.hid (len_of hS)
    have DN := Lib.hid (deep_of hS iN)
    have CN := Lib.hid (conf_of hS)
    obtain ⟨dd, hdd⟩ : ∃ dd, dd = deepW ys := ⟨_, rfl⟩
    obtain ⟨cc, hcc⟩ : ∃ cc, cc = confW ys := ⟨_, rfl⟩
    rw [← hdd] at c3 DN
    rw [← hcc] at c4 CN
    clear hdd hcc i3 i4
    have RB := Lib.hid (fun v : Int => (iB.setCell (p := ⟨w.heap.size + 1, 0, none⟩) (show w.heap.size ≤ w.heap.size + 1 by omega) (.int .i64 v)))
    have RK := Lib.hid (fun v : Int => (KeepsOthers.setCell W ⟨w.heap.size + 1, 0, none⟩ (.int .i64 v)).same D _ hK rfl)
    have RX := Lib.hid (fun v : Int => i1.set (.int .i64 v))
    by_cases h1 : 100 < dd
    · have F := Lib.hid (show rightN t = 21 by unfold rightN; rw [if_neg (by have := LN.out; omega), if_pos (by have := DN.out; omega)])
      gi_wp2_with fail
      refine ⟨by simp, .inl ⟨_, _, rfl, run_takeDeferred (RK.out _), ?_⟩⟩
      have bx := (boxed_left (RX.out 21) (RK.out 21) rfl (.deferred none)).cell
      exact ⟨.int .i64 21, by simp [results, Tryd.results19, go_sem, bx], ret_int (by rw [F.out]; rfl), below_left (RB.out 21) (by omega) (RK.out 21) _⟩
    · cases cc with
      | true =>
      have F := Lib.hid (show rightN t = 0 by unfold rightN; rw [if_neg (by have := LN.out; omega), if_neg (by have := DN.out; omega), ← CN.out]; rfl)
      gi_wp2_with fail
      refine ⟨by simp, .inl ⟨_, _, rfl, run_takeDeferred (RK.out _), ?_⟩⟩
      have bx := (boxed_left (RX.out 0) (RK.out 0) rfl (.deferred none)).cell
      exact ⟨.int .i64 0, by simp [results, Tryd.results19, go_sem, bx], ret_int (by rw [F.out]; rfl), below_left (RB.out 0) (by omega) (RK.out 0) _⟩
      | false =>
      have F := Lib.hid (show rightN t = 22 by unfold rightN; rw [if_neg (by have := LN.out; omega), if_neg (by have := DN.out; omega), ← CN.out]; rfl)
      gi_wp2_with fail
      refine ⟨by simp, .inl ⟨_, _, rfl, run_takeDeferred (RK.out _), ?_⟩⟩
      have bx := (boxed_left (RX.out 22) (RK.out 22) rfl (.deferred none)).cell
      exact ⟨.int .i64 22, by simp [results, Tryd.results19, go_sem, bx], ret_int (by rw [F.out]; rfl), below_left (RB.out 22) (by omega) (RK.out 22) _⟩
  case stop =>
    rintro D co pre W hD hSp ⟨⟨i1, iB⟩, rfl, hlen⟩ hK
    have F := Lib.hid (show rightN t = 20 by unfold rightN; rw [if_pos (by have := len_of_prefix hSp; omega)])
    gi_wp2_with fail
    refine ⟨by simp, .inl ⟨_, _, rfl, run_takeDeferred hK, ?_⟩⟩
    have bx := (boxed_left i1 hK rfl (.deferred none)).cell
    exact ⟨.int .i64 20, by simp [results, Tryd.results19, go_sem, bx], ret_int (by rw [F.out]; rfl), below_left iB (by omega) hK _⟩
end Go.Proofs.YtgnfbhemkombaaaDoor
