/- A loop over All of package expr whose body writes over what it is handed, and nowhere else. -/
import Derived.Test.YtdobpdedphkglaaE33
namespace Go.Proofs.Ytdobpdedphkglaa
open Go.RowKit Go.Shelf
attribute [local go_sem] Oper.semAt_some
theorem putObj_other {W : World} {l k : Nat} (o : Obj) (h : k ≠ l) : (W.putObj l o).heap[k]? = W.heap[k]? := World.putObj_heap_other h
theorem OutR.record {W0 W : World} {r : Loop} (h : OutR W0 W r) (r' : Loop) : OutR W0 (W.putObj (W0.heap.size + 1) (.loop r')) r' := by
  have hs := h.size
  refine ⟨h.below.grown (grownBy_putObj' W (W0.heap.size + 1) (.loop r')) (by omega) (fun k e => by cases e; omega), World.putObj_heap_same (by omega), (World.putObj_heap_other (by omega)).trans h.dfr⟩
theorem putObj_size (W : World) (l : Nat) (o : Obj) : (W.putObj l o).heap.size = W.heap.size := by simp [World.putObj]
theorem Spo.outR {W0 W W' : World} {r : Loop} {lo hi : Nat} (h : OutR W0 W r) (hs : Spo lo hi W W') (hl : W0.heap.size + 2 ≤ lo) : OutR W0 W' r :=
  ⟨h.below.trans (hs.below.mono (by omega)), (hs.below.block _ (by omega)).trans h.lrec, (hs.below.block _ (by omega)).trans h.dfr⟩
set_option maxHeartbeats 1000000 in
theorem range_all {g : Operand} {ps : Array Tmp} {assign body : Code} {Q : Exit → Act → World → Prop} {a : Act} {W0 : World} {n : Nat} (h1 : 2 ≤ n) {bk : Nat} {t : Tr} {A : Option Addr} {c : Nat}
    (hg : a.eval g = .func (.func 41) #[] #[.pointer (some ⟨bk, 0, none⟩)]) (hps : ps.size = 2) (hb : Box3 W0 bk (.int .i64 t.k) (.int .i64 t.i) (.slice A t.ks.length c)) (ht : IsT W0 W0.heap.size t A c)
    (hround : ∀ (W : World) (d : Int) (q : Tr) (A : Option Addr) (c lo hi : Nat), Below W0.heap.size W0 W → OwnT W lo hi q A c → q.fit → W0.heap.size + 4 ≤ lo → hi ≤ W.heap.size → W0.heap.size + 2 ≤ W.heap.size →
      assign.wpIn (Fence.wide.inRound (W0.heap.size + 1)) 0 Try.prog (Exit.then (fun a1 W1 => Below W.heap.size W W1 ∧ ∀ W2, W2.heap.size = W1.heap.size → (∀ k, k ≠ W0.heap.size + 1 → W2.heap[k]? = W1.heap[k]?) →
          body.wpIn (Fence.wide.inRound (W0.heap.size + 1)) 0 Try.prog (fun e _ W3 => e = .normal ∧ Spo lo hi W2 W3) a1 W2) (fun _ _ _ => False))
        { tmps := (ps.zip #[.int .i64 d, .agg #[.int .i64 q.k, .int .i64 q.i, .slice A q.ks.length c]]).foldl (fun t (p, v) => t.setIfInBounds p v) a.tmps, defers := [] } W)
    (hdone : ∀ (D : Nat) (W : World), W0.heap.size ≤ D → Below W0.heap.size W0 W → W.heap[D]? = some (.deferred (some [])) → Q .normal { a with defers := { target := .collected D, args := #[] } :: a.defers } W) :
    (Code.rangeFunc g ps assign body).wpIn Fence.wide n Try.prog Q a W0 := by
  refine wpIn_rangeFunc fun fn hfn => ?_
  obtain ⟨r, hr⟩ : ∃ r : Loop, r = { state := .ready, pending := none, fn, tmps := a.tmps, params := ps, assign, body, defers := W0.heap.size } := ⟨_, rfl⟩
  obtain ⟨W1, hW1⟩ : ∃ W1, (W0.alloc (.deferred (some []))).alloc (.loop r) = W1 := ⟨_, rfl⟩
  have hs1 : W1.heap.size = W0.heap.size + 2 := by rw [← hW1]; simp
  have hO : OutR W0 W1 r := by
    rw [← hW1]
    refine ⟨((Below.refl _ W0).alloc (Nat.le_refl _) _).alloc (by simp) _, ?_, (Below.heap_alloc _ _ _ (by simp)).trans (World.alloc_heap_new W0 _)⟩
    have := World.alloc_heap_new (W0.alloc (.deferred (some []))) (.loop r)
    rwa [World.size_alloc] at this
  have hst : r.state = .ready := by rw [hr]
  refine ⟨W0.heap.size + 1, [{ target := .collected W0.heap.size, args := #[] }], W1, { target := .fn (.func 41) #[.pointer (some ⟨bk, 0, none⟩)], args := #[.func (.yield (W0.heap.size + 1)) #[] #[]] }, W1, 41,
    #[.func (.yield (W0.heap.size + 1)) #[] #[], .pointer (some ⟨bk, 0, none⟩)], W1, ?_, ?_, ?_, ?_, fun _ => by omega, ?_⟩
  · rw [← hW1, hr]; exact run_enterLoop_outer _ _ _ _ _
  · simp only [resolve, hg]
    simp [go_sem]
  · intro f' _; trivial
  · simp [invoke, go_sem]
  · refine (all2_in W0 r t A c bk (n - 1) (by omega) hb ht ?_ W1 hO hs1).mono ?_
    · intro W d q A c lo hi hW hq hf hlo hhi
      have hy := run_yield (P := Try.prog) (args := #[.int .i64 d, .agg #[.int .i64 q.k, .int .i64 q.i, .slice A q.ks.length c]]) hW.lrec (by rw [hr]; simpa using hps.symm)
      rw [hr] at hy
      refine ⟨fn, _, assign, body, hy, roundIn_of_wpIn hfn (wpIn_mono (hround W d q A c lo hi hW.below hq hf hlo hhi hW.size) ?_)⟩
      rintro e a1 Wa hp
      cases e with
      | normal =>
        obtain ⟨hba, hbody⟩ := hp
        have hOa := hW.keep hba
        have hsa := hba.size
        refine ⟨_, run_beginRound hOa.lrec hst, wpIn_mono (hbody _ (putObj_size _ _ _) (fun k hk => World.putObj_heap_other hk)) ?_⟩
        rintro e a3 W3 ⟨rfl, hs3⟩
        have hO2 := hOa.record { r with state := .busy }
        have hO3 := Spo.outR hO2 hs3 (by omega)
        have hend := run_endRound (P := Try.prog) none hO3.lrec
        refine ⟨_, _, hend, rfl, ?_, ?_⟩
        · have := hO3.record { r with state := .ready, pending := none }
          have e : ({ r with state := .ready, pending := none } : Loop) = r := by rw [hr]
          rw [e] at this
          simpa [hr] using this
        · refine ⟨?_, fun k hk hkl hks => ?_⟩
          · have := hs3.below.size
            rw [putObj_size] at this ⊢
            omega
          · rw [World.putObj_heap_other hkl, hs3.out (by rw [putObj_size]; omega) hks, World.putObj_heap_other hkl, hba.block k hk]
      | ret => exact hp
      | exit id => exact hp
      | goto t => exact hp
      | panic ch => exact hp
      | outgrown => exact hp
    · rintro e W2 ⟨⟨v, rfl⟩, hO2⟩
      have hpe : r.pending = none := by rw [hr]
      have he := run_endLoop (P := Try.prog) hO2.lrec (by rw [hst]; simp)
      rw [hpe] at he
      exact ⟨none, _, he, hdone W0.heap.size _ (Nat.le_refl _) (hO2.record { r with state := .exhausted, pending := none }).below ((World.putObj_heap_other (by omega)).trans hO2.dfr)⟩
/-- what All answers: of what is not right a function that hands out nothing, else one that holds a copy -/
def AllPost (w : World) (t : Tr) (e : Ending) (w' : World) : Prop :=
  Below w.heap.size w w' ∧ ((rightN t ≠ 0 ∧ e = .returned (.func (.func 40) #[] #[])) ∨ (rightN t = 0 ∧ ∃ bk A' c', e = .returned (.func (.func 41) #[] #[.pointer (some ⟨bk, 0, none⟩)]) ∧ Box3 w' bk (.int .i64 t.k) (.int .i64 t.i) (.slice A' t.ks.length c') ∧ IsT w' w'.heap.size t A' c'))
set_option maxHeartbeats 1000000 in
theorem all_any (t : Tr) (A : Option Addr) (c : Nat) (w : World) (ht : IsT w w.heap.size t A c) :
    Calls Try.prog 18 #[.agg #[.int .i64 t.k, .int .i64 t.i, .slice A t.ks.length c]] w (AllPost w t) := by
  have hb0 : Below w.heap.size w (w.alloc (.cells #[.int .i64 t.k, .int .i64 t.i, .slice A t.ks.length c] 24)) := (Below.refl _ _).alloc (Nat.le_refl _) _
  have HT := Lib.hid (ht.keep hb0 hb0.size)
  have HX := Lib.hid (Box3.new w (.int .i64 t.k) (.int .i64 t.i) (.slice A t.ks.length c))
  have FT := Lib.hid (ht.fit t)
  clear ht
  go_enter Try.func18, Try.ntmps18
  go_wp2_with fail
  refine (right_any t A c _ (by exact HT.out)).mono ?_
  rintro e w1 ⟨rfl, hb1⟩
  have HB := Lib.hid (hb0.trans (hb1.mono hb0.size))
  have hX1 := HX.out.keep hb1 HX.out.lt
  obtain ⟨x0, x1, x2⟩ := hX1.cells
  have H1 := Lib.hid (HT.out.keep hb1 hb1.size)
  clear hb1 hX1
  by_cases hr : rightN t = 0
  · have h1 : ((rightN t : Int) != 0) = false := by simpa using hr
    have HR := Lib.hid hr
    clear hr
    go_wp2_with fail
    refine (clone_any t.sz t A c _ (Nat.le_refl _) (by exact H1.out)).mono ?_
    rintro e w2 ⟨A', c', rfl, ho, hb2⟩
    have P := Lib.hid (ho.isT t (Nat.le_refl _) FT.out)
    have HB2 := Lib.hid (HB.out.trans (hb2.mono HB.out.size))
    have hb3 : Below w2.heap.size w2 (w2.alloc (.cells #[.int .i64 t.k, .int .i64 t.i, .slice A' t.ks.length c'] 24)) := (Below.refl _ _).alloc (Nat.le_refl _) _
    have P3 := Lib.hid (P.out.keep hb3 hb3.size)
    clear ho hb2
    go_wp2_with fail
    go_ret
    exact ⟨HB2.out.trans (hb3.mono HB2.out.size), .inr ⟨HR.out, w2.heap.size, A', c', rfl, Box3.new _ _ _ _, P3.out⟩⟩
  · have h1 : ((rightN t : Int) != 0) = true := by simpa using hr
    have HR := Lib.hid hr
    clear hr
    go_wp2_with fail
    go_ret
    exact ⟨HB.out, .inl ⟨HR.out, rfl⟩⟩
/-- the function that hands out nothing -/
theorem all1_stops {α : Type} (encs : α → Array Value) (Kp : World → World → Prop) (n : Nat) (w : World) : SeqStopsK Fence.wide n Try.prog 40 #[] encs Kp (fun ys => ys = []) (fun _ => False) 0 w := by
  intro l J Jx W hb0 hJ _ hY h0
  refine callsIn_of_wp Try.func40 rfl trivial ?_ rfl
  simp only [Try.ntmps40, List.size_toArray, List.length_cons, List.length_nil, Nat.reduceAdd, Nat.reduceSub, Array.replicate_succ, Array.replicate_zero, List.push_toArray, List.append_toArray, List.nil_append, List.cons_append]
  gi_wp2_with fail
  go_end0
  exact ⟨⟨_, rfl⟩, .inl ⟨[], rfl, h0⟩⟩
end Go.Proofs.Ytdobpdedphkglaa
