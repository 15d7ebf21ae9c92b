/- All of package expr: the nodes of a tree, each a copy in new memory. -/
import Derived.Test.YtdobpdedphkglaaE32
import Derived.Test.YtdobpdedphkglaaE17
import Derived.Test.YtdobpdedphkglaaE9
import Derived.Test.YtdobpdedphkglaaR1
namespace Go.Proofs.Ytdobpdedphkglaa
open Go.RowKit Go.Shelf
attribute [local go_sem] Oper.semAt_some
/-- a loop stands ready, whose record lies just behind W0; of W0 nothing has turned -/
structure OutR (W0 W : World) (r : Loop) : Prop where
  below : Below W0.heap.size W0 W
  lrec : W.heap[W0.heap.size + 1]? = some (.loop r)
  dfr : W.heap[W0.heap.size]? = some (.deferred (some []))
theorem OutR.size {W0 W : World} {r : Loop} (h : OutR W0 W r) : W0.heap.size + 2 ≤ W.heap.size := by have := (Array.getElem?_eq_some_iff.1 h.lrec).1; omega
theorem OutR.keep {W0 W W' : World} {r : Loop} (h : OutR W0 W r) (hb : Below W.heap.size W W') : OutR W0 W' r := by
  have := h.size
  exact ⟨h.below.trans (hb.mono h.below.size), (hb.block _ (by omega)).trans h.lrec, (hb.block _ (by omega)).trans h.dfr⟩
theorem OutR.grown {W0 X Y : World} {r : Loop} {row : Option Nat} (h : OutR W0 X r) (hg : X.grownBy Y row) (hr : ∀ k, row = some k → W0.heap.size + 2 ≤ k) : OutR W0 Y r := by
  have hs := h.size
  refine ⟨h.below.grown hg (by omega) (fun k e => by have := hr k e; omega), (hg.block _ (by omega) (fun e => by have := hr _ e.symm; omega)).trans h.lrec, (hg.block _ (by omega) (fun e => by have := hr _ e.symm; omega)).trans h.dfr⟩
/-- nothing that there was has turned, but the blocks lo, .., hi - 1 and block l -/
structure SpoL (lo hi l : Nat) (W W' : World) : Prop where
  size : W.heap.size ≤ W'.heap.size
  rest : ∀ k, k < W.heap.size → k ≠ l → ¬ (lo ≤ k ∧ k < hi) → W'.heap[k]? = W.heap[k]?
theorem OutR.between {W0 W W' : World} {r r' : Loop} (h : OutR W0 W r) (h' : OutR W0 W' r') (hs : W.heap.size ≤ W'.heap.size) : Below W0.heap.size W W' :=
  ⟨h'.below.os.trans h.below.os.symm, h'.below.tape.trans h.below.tape.symm, h'.below.output.trans h.below.output.symm, hs, fun k hk => (h'.below.block k hk).trans (h.below.block k hk).symm⟩
/-- what a round is owed by the loop over All, and what it owes -/
def RoundOwes (W0 : World) (r : Loop) : Prop :=
  ∀ (W : World) (d : Int) (q : Tr) (A : Option Addr) (c lo hi : Nat), OutR W0 W r → OwnT W lo hi q A c → q.fit → W0.heap.size + 4 ≤ lo → hi ≤ W.heap.size →
    YieldAt Fence.wide 0 Try.prog (W0.heap.size + 1) #[.int .i64 d, .agg #[.int .i64 q.k, .int .i64 q.i, .slice A q.ks.length c]] W fun e W' => e = .returned (.bool true) ∧ OutR W0 W' r ∧ SpoL lo hi (W0.heap.size + 1) W W'
theorem partFit {t : Tr} (hf : t.fit) : ∀ d, ∀ x ∈ t.pre d, x.2.fit := by
  induction t using Tr.ind with
  | h t ih =>
    intro d x hx
    rw [pre_eq] at hx
    rcases List.mem_cons.1 hx with rfl | hx
    · exact hf
    · have : ∀ (l : List Tr), (∀ q ∈ l, q ∈ t.ks) → x ∈ preL (d + 1) l → x.2.fit := by
        intro l
        induction l with
        | nil => intro _ h; simp [preL] at h
        | cons y l ihl =>
          intro hm h
          simp only [preL, List.mem_append] at h
          rcases h with h | h
          · exact ih y (hm y (by simp)) (((fit_eq t).1 hf).2 _ (hm y (by simp))) _ _ h
          · exact ihl (fun q hq => hm q (by simp [hq])) h
      exact this t.ks (fun q hq => hq) hx
set_option maxRecDepth 100000 in
set_option maxHeartbeats 4000000 in
theorem all2_in (W0 : World) (r : Loop) (t : Tr) (A : Option Addr) (c bk : Nat) (n : Nat) (hn : 1 ≤ n) (hb : Box3 W0 bk (.int .i64 t.k) (.int .i64 t.i) (.slice A t.ks.length c)) (ht : IsT W0 W0.heap.size t A c) (hY : RoundOwes W0 r) (W : World) (hW : OutR W0 W r) (hs : W.heap.size = W0.heap.size + 2) :
    CallsIn Fence.wide n Try.prog 41 #[.func (.yield (W0.heap.size + 1)) #[] #[], .pointer (some ⟨bk, 0, none⟩)] W fun e W' => (∃ v, e = .returned v) ∧ OutR W0 W' r := by
  have hb1 := hb.keep hW.below hb.lt
  have hY' := Lib.hid hY
  have hlt := hb.lt
  clear hY
  have hbo := fun o => hb1.keep ((Below.refl W.heap.size W).alloc (Nat.le_refl _) o) hb1.lt
  have x0 := fun o => (hbo o).cells.1
  have x1 := fun o => (hbo o).cells.2.1
  have x2 := fun o => (hbo o).cells.2.2
  refine callsIn_of_wp_marks Try.func41 rfl trivial ?_ rfl
  simp only [Try.ntmps41, List.size_toArray, List.length_cons, List.length_nil, Nat.reduceAdd, Nat.reduceSub, Array.replicate_succ, Array.replicate_zero, List.push_toArray, List.append_toArray, List.nil_append, List.cons_append]
  gi_wp2_with ((try refine ⟨trivial, ?_⟩); gi_at_call 42; refine (nodes_in Fence.wide _ trivial rfl _ _ _ _ _ _).mono ?_; rintro e w' ⟨rfl, rfl⟩)
  clear x0 x1 x2 hbo
  obtain ⟨W2, hW2⟩ : ∃ W2, (W.alloc (.cells #[.func (.yield (W0.heap.size + 1)) #[] #[]] 58)).alloc (.cells #[.int .i64 t.k, .int .i64 t.i, .slice A t.ks.length c] 24) = W2 := ⟨_, rfl⟩
  have b1 := (Boxed.new W 58 (.func (.yield (W0.heap.size + 1)) #[] #[])).alloc (.cells #[.int .i64 t.k, .int .i64 t.i, .slice A t.ks.length c] 24)
  have b2 := Box3.new (W.alloc (.cells #[.func (.yield (W0.heap.size + 1)) #[] #[]] 58)) (.int .i64 t.k) (.int .i64 t.i) (.slice A t.ks.length c)
  have hO : OutR W0 ((W.alloc (.cells #[.func (.yield (W0.heap.size + 1)) #[] #[]] 58)).alloc (.cells #[.int .i64 t.k, .int .i64 t.i, .slice A t.ks.length c] 24)) r := hW.keep (((Below.refl W.heap.size W).alloc (Nat.le_refl _) _).alloc (by simp) _)
  have hsz : ((W.alloc (.cells #[.func (.yield (W0.heap.size + 1)) #[] #[]] 58)).alloc (.cells #[.int .i64 t.k, .int .i64 t.i, .slice A t.ks.length c] 24)).heap.size = W0.heap.size + 4 := by simp; omega
  simp only [World.size_alloc, hs] at b1 b2 ⊢
  rw [hW2] at b1 b2 hO hsz ⊢
  clear hW2
  refine wpIn_rangeFunc_ownH (α := Nd W0 W0.heap.size) rfl (by omega) (gf := 66) (lb := #[.pointer (some ⟨W0.heap.size + 2 + 1, 0, none⟩)]) rfl trivial (enters_of Try.func66 (by kernel_rfl) rfl)
    (nodes_stops Fence.wide rfl _ trivial trivial rfl (W0.heap.size + 2 + 1) W0.heap.size W0.heap.size W0 t A c W2 (by omega) (by omega) (by omega) b2.cells ht hO.below) (fun h k => h.trans k) (KB.putObj (by omega)) (Below.refl _ _) (fun _ => rfl)
    (fun _ W => Boxed W (W0.heap.size + 2) 58 (.func (.yield (W0.heap.size + 1)) #[] #[]) ∧ OutR W0 W r ∧ W0.heap.size + 4 ≤ W.heap.size)
    (fun _ _ _ => False)
    ?hI ?hIx ⟨b1, hO, by omega⟩
    (fun x a' W => ∃ Bx, W0.heap.size + 4 ≤ Bx ∧ Box3 W Bx (.int .i64 x.t.k) (.int .i64 x.t.i) (.slice x.A x.t.ks.length x.c) ∧ a' = { tmps := #[.func (.yield (W0.heap.size + 1)) #[] #[], .pointer (some ⟨bk, 0, none⟩), .pointer (some ⟨W0.heap.size + 2, 0, none⟩), .int .i64 (wr64 x.d), .pointer (some ⟨Bx, 0, none⟩), .agg #[.int .i64 t.k, .int .i64 t.i, .slice A t.ks.length c], .func (.func 66) #[] #[.pointer (some ⟨W0.heap.size + 2 + 1, 0, none⟩)], .int .i64 (wr64 x.d), .agg #[.int .i64 x.t.k, .int .i64 x.t.i, .slice x.A x.t.ks.length x.c], undef, undef, undef, undef, undef, undef], defers := [] })
    ?hAx ?assign ?body ?done ?stop
  case hI =>
    refine OwnFrom.and (Own.from (boxed_own _ _ (fun _ => .func (.yield (W0.heap.size + 1)) #[] #[])) _) ?_
    intro s X Y row hs hg hr
    exact ⟨hs.1.grown hg (fun k e => by have := (hr k e).1; omega), Nat.le_trans hs.2 hg.size⟩
  case hIx => exact fun co s X Y row hs _ _ => hs.elim
  case hAx =>
    rintro x a' s Wa Wb row ⟨Bx, h1, h2, h3⟩ hg hr
    refine ⟨Bx, h1, h2.grown hg (fun e => ?_), h3⟩
    obtain ⟨_, o, ho, hc⟩ := hr Bx e.symm
    rw [show Wa.heap[Bx]? = _ from h2] at ho
    cases ho
    cases hc
  case assign =>
    rintro l pre x W K ⟨i1, i2, i3⟩ hK
    simp only [encN, Array.zip_eq_zipWith, List.zipWith_toArray, List.foldl_toArray]
    gi_wp2
    exact hK _ _ ((KeepsOthers.alloc _ _).from _) (KB.alloc (by omega) _) ⟨i1.alloc _, i2.keep ((Below.refl _ W).alloc (Nat.le_refl _) _), by simp; omega⟩ ⟨W.heap.size, i3, Box3.new W _ _ _, rfl⟩
  case body =>
    rintro l pre x a' W hl ⟨r', hr'⟩ ⟨i1, i2, i3⟩ ⟨Bx, hBx, bX, rfl⟩ hlt
    have FQ := Lib.hid (x.h.fit x.t)
    have hdr : Below W.heap.size W W.drew := ⟨rfl, rfl, rfl, Nat.le_refl _, fun _ _ => rfl⟩
    have HT := Lib.hid ((x.h.keep i2.below i2.below.size).keep hdr (Nat.le_refl _))
    have HB := Lib.hid i1
    have HO := Lib.hid i2
    have c1 : W.drew.cell? ⟨W0.heap.size + 2, 0, none⟩ = some (.func (.yield (W0.heap.size + 1)) #[] #[]) := i1.cell
    have x0 : W.drew.cell? ⟨Bx, 0, none⟩ = some (.int .i64 x.t.k) := bX.cells.1
    have x1 : W.drew.cell? ⟨Bx, 1, none⟩ = some (.int .i64 x.t.i) := bX.cells.2.1
    have x2 : W.drew.cell? ⟨Bx, 2, none⟩ = some (.slice x.A x.t.ks.length x.c) := bX.cells.2.2
    have FIN := Lib.hid (show ∀ (w1 W' : World), Below W.drew.heap.size W.drew w1 → OutR W0 W' r → SpoL W.drew.heap.size w1.heap.size (W0.heap.size + 1) w1 W' → ∀ a'' : Act, ownPostG W2.heap.size (KB W0.heap.size W0.heap.size)
        (fun (_ : List (Nd W0 W0.heap.size)) W => Boxed W (W0.heap.size + 2) 58 (.func (.yield (W0.heap.size + 1)) #[] #[]) ∧ OutR W0 W r ∧ W0.heap.size + 4 ≤ W.heap.size) (fun _ _ _ => False) (pre ++ [x]) W .normal a'' W' from by
      intro w1 W' hb1 hO' hS a''
      have hz1 : W.heap.size ≤ w1.heap.size := hb1.size
      have same : ∀ k, k < W.heap.size → k ≠ W0.heap.size + 1 → W'.heap[k]? = W.heap[k]? := fun k h1 h2 => (hS.rest k (by omega) h2 (by show ¬ (W.heap.size ≤ k ∧ _); omega)).trans (hb1.block k h1)
      have hz2 : W.heap.size ≤ W'.heap.size := Nat.le_trans hz1 hS.size
      refine ⟨⟨hz2, fun k o hk h0 _ => (same k (Array.getElem?_eq_some_iff.1 h0).1 (by omega)).trans h0⟩, ⟨i2.between hO' hz2, fun k cs _ h0 => ?_⟩, ?_, hO', by omega⟩
      · refine (same k (Array.getElem?_eq_some_iff.1 h0).1 (fun e => ?_)).trans h0
        rw [e, i2.lrec] at h0
        cases h0
      · exact (same _ (by omega) (by omega)).trans i1)
    have hbx := bX.lt
    clear i1 i2 bX hr'
    gi_wp2_with fail
    refine wpIn_region_lists (by kernel_rfl) [[0, 1, 2, 3, 4, 5], [0, 2, 1, 3, 4, 5], [0, 2, 3, 1, 4, 5], [1, 0, 2, 3, 4, 5], [1, 2, 0, 3, 4, 5], [1, 2, 3, 0, 4, 5], [2, 0, 1, 3, 4, 5], [2, 0, 3, 1, 4, 5], [2, 1, 0, 3, 4, 5], [2, 1, 3, 0, 4, 5], [2, 3, 0, 1, 4, 5], [2, 3, 1, 0, 4, 5]] (by kernel_rfl) ?_
    intro is his
    simp only [List.mem_cons, List.not_mem_nil, or_false] at his
    rcases his with rfl | rfl | rfl | rfl | rfl | rfl | rfl | rfl | rfl | rfl | rfl | rfl
    all_goals simp only [List.filterMap_cons, List.filterMap_nil, List.getElem?_toArray, List.getElem?_cons_succ, List.getElem?_cons_zero]
    all_goals
      gi_wp2_with fail
      refine ⟨trivial, ⟨fun h => (by cases h), ?_⟩⟩
      refine (CallsIn.inRound l (callsIn_wide.2 (clone_any x.t.sz x.t x.A x.c _ (Nat.le_refl _) (by exact HT.out)))).mono ?_
      rintro e w1 ⟨A', c', rfl, hOw, hb1⟩
      obtain ⟨fn, tmps, assign, body, hy, hR⟩ := yieldAny rfl (n - 1 - 1 - 1) (hY'.out w1 (wr64 x.d) x.t A' c' W.drew.heap.size w1.heap.size (HO.out.keep (hdr.trans hb1)) hOw FQ.out (by show _ ≤ W.heap.size; omega) (Nat.le_refl _))
      have c2 : w1.cell? ⟨W0.heap.size + 2, 0, none⟩ = some (.func (.yield (W0.heap.size + 1)) #[] #[]) := (hb1.cell (p := ⟨W0.heap.size + 2, 0, none⟩) (by show W0.heap.size + 2 < W.heap.size; omega)).trans c1
      have FI := Lib.hid (fun W' => FIN.out w1 W' hb1)
      clear hOw hb1
      gi_wp2_with ((try refine ⟨fun h => (by cases h), ?_⟩); refine hR.mono ?_; clear hR; rintro e W3 ⟨rfl, hO3, hS3⟩)
      exact FI.out _ hO3 hS3 _
  case done =>
    rintro D ys W hD hS ⟨i1, i2, i3⟩ hK
    gi_wp2_with fail
    refine ⟨by simp, .inl ⟨_, _, rfl, run_takeDeferred hK, ?_⟩⟩
    exact ⟨.tuple #[], by simp [results, Try.results41, go_sem], ⟨_, rfl⟩, i2.grown (grownBy_putObj' W D _) (fun k e => by cases e; omega)⟩
  case stop =>
    rintro D co pre W hD hSp hf hK
    exact hf.elim
end Go.Proofs.Ytdobpdedphkglaa
