/- build and Get of package intern. -/
import Derived.Test.YtmmdhlemkcddmaaI8
import Derived.Test.YtmmdhlemkcddmaaLY
import Derived.Deep.DeepCutAuto
namespace Go.Proofs.Ytmmdhlemkcddmaa
open Go.RowKit
set_option linter.unusedVariables false
set_option linter.unusedSimpArgs false
/-- the state of build's loop -/
structure BdS (w wr : World) (t : Tr) (m : Nat) (A1 : Option Addr) (c1 : Nat) (cs : List (Option Addr × Nat)) : Prop where
  lay : Lay w wr w.heap.size (w.heap.size + 3) (w.heap.size + 2) (.int .i64 t.k) (.int .i64 t.i) (t.ks.take m) A1 c1 cs
  br : Box3 wr w.heap.size (.int .i64 0) (.int .i64 0) (.slice none 0 0)
theorem BdS.start (w : World) (t : Tr) (o : Obj) : BdS w (((w.alloc (.cells #[.int .i64 0, .int .i64 0, .slice none 0 0] 24)).alloc o).alloc (.cells #[.int .i64 t.k, .int .i64 t.i, .slice none 0 0] 24)) t 0 none 0 [] := by
  have e2 := Box3.new ((w.alloc (.cells #[.int .i64 0, .int .i64 0, .slice none 0 0] 24)).alloc o) (.int .i64 t.k) (.int .i64 t.i) (.slice none 0 0)
  have e1 := Box3.new w (.int .i64 0) (.int .i64 0) (.slice none 0 0)
  simp only [World.size_alloc] at e1 e2
  refine ⟨⟨(((Below.refl _ w).alloc (Nat.le_refl _) _).alloc (by simp) _).alloc (by simp; omega) _, rfl, e2, by omega, by omega, by simpa [rowC] using World.ownsRow_nil _ _ _ _, by simp [OwnL]⟩, ?_⟩
  exact (e1.keep (below_al _ o) (by simp)).keep (below_al _ _) (by simp; omega)
theorem run_index4 (p0 p1 p2 p3 : Int) (j : Nat) (hj : j < 4) (v : Int) (hv : [p0, p1, p2, p3][j]? = some v) (w : World) : (Instr.index 110 (.agg #[.int .i64 p0, .int .i64 p1, .int .i64 p2, .int .i64 p3]) (.int .i64 (j : Int))).run Try.prog w = .ok (.int .i64 v) w := by
  obtain ⟨i0, hi0, hi1⟩ : ∃ i, Try.prog.info? 3 = some i ∧ i.size = 1 := by
    have h : (Try.prog.info? 3).map (·.size) = some 1 := by kernel_rfl
    cases hq : Try.prog.info? 3 with
    | none => rw [hq] at h; simp at h
    | some i => rw [hq] at h; exact ⟨i, rfl, by simpa using h⟩
  match j, hj with
  | 0, _ => simp at hv; subst hv; simp [Instr.index, run_underlying undArr4, asIntOf, go_sem, sizeOf, typeInfo, hi0, hi1, part, isAgg, run_underlying undIntI]
  | 1, _ => simp at hv; subst hv; simp [Instr.index, run_underlying undArr4, asIntOf, go_sem, sizeOf, typeInfo, hi0, hi1, part, isAgg, run_underlying undIntI]
  | 2, _ => simp at hv; subst hv; simp [Instr.index, run_underlying undArr4, asIntOf, go_sem, sizeOf, typeInfo, hi0, hi1, part, isAgg, run_underlying undIntI]
  | 3, _ => simp at hv; subst hv; simp [Instr.index, run_underlying undArr4, asIntOf, go_sem, sizeOf, typeInfo, hi0, hi1, part, isAgg, run_underlying undIntI]
theorem padAt {L : List Tr} {ks : List Tr} (h4 : ks.length ≤ 4) {p0 p1 p2 p3 : Int} (hp : pad4 (ks.map (num L)) = [p0, p1, p2, p3]) (m : Nat) (hm : m < 4) : [p0, p1, p2, p3][m]? = some (if h : m < ks.length then (num L ks[m] : Int) else 0) := by
  rw [← hp]
  unfold pad4
  by_cases h : m < ks.length
  · rw [dif_pos h, List.getElem?_append_left (by simpa using h)]
    simp [h]
  · rw [dif_neg h, List.getElem?_append_right (by simp; omega)]
    rw [List.getElem?_replicate, if_pos (by simp; omega)]
set_option maxHeartbeats 4000000 in
set_option maxRecDepth 100000 in
theorem build_any {lo P M room : Nat} {L : List Tr} : ∀ (m : Nat) (hm : m < L.length) (w : World) (A : Option Addr) (c : Nat), Tab w lo P M room L A c →
    Calls Try.prog 95 #[.pointer (some ⟨P, 0, none⟩), .int .i64 ((m : Int) + 1)] w fun e w' => ∃ A' c', e = .returned (.agg #[.int .i64 L[m].k, .int .i64 L[m].i, .slice A' L[m].ks.length c']) ∧ OwnT w' w.heap.size w'.heap.size L[m] A' c' ∧ Below w.heap.size w w' := by
  intro m
  induction m using Nat.strongRecOn with
  | ind m ih =>
    intro hm w A c hT
    have hbe := below_al w (.cells #[.int .i64 0, .int .i64 0, .slice none 0 0] 24)
    obtain ⟨g, rfl, hc, p0, p1, p2, p3, hp, ⟨c0, c1, c2, c3, c4, c5⟩, _, _⟩ := (hT.keep hbe).entry m hm
    obtain ⟨q0, q1, q2⟩ := (hT.keep hbe).cells
    have TT := Lib.hid hT
    have hle := hT.le
    have hrm := hT.rm
    have IH := Lib.hid (fun (q : Tr) (hq : q ∈ L[m].ks) => show ∃ j, ∃ hj : j < m, num L q = j + 1 ∧ L[j]? = some q from by
      have h1 := hT.ok.kids m hm q hq
      obtain ⟨j, hj, e⟩ := List.mem_iff_getElem.1 h1
      simp at hj
      rw [List.getElem_take] at e
      exact ⟨j, by omega, by rw [← e]; exact num_get hT.ok.nodup j (by omega), by rw [List.getElem?_eq_getElem (by omega), e]⟩)
    have h4 := hT.ok.four (List.getElem_mem hm)
    obtain ⟨t, ht⟩ : ∃ t, t = L[m] := ⟨_, rfl⟩
    rw [← ht] at hp c0 c1 h4 IH ⊢
    have BUILD := Lib.hid ih
    have PA := Lib.hid (padAt h4 hp)
    have wr1 : IntKind.i64.wrap ((m : Int) + 1 - 1) = (m : Int) := by rw [IntKind.wrap_i64]; omega
    obtain ⟨i0, hi, hz0, hz1, hz2⟩ := info_parts infoE
    have HI := Lib.hid (And.intro hi (And.intro hz0 (And.intro hz1 hz2)))
    clear hi hz0 hz1 hz2 hT ih ht hp hbe
    have START := Lib.hid (BdS.start w t (.cells #[.int .i64 t.k, .int .i64 t.i, .int .i64 p0, .int .i64 p1, .int .i64 p2, .int .i64 p3] 112))
    go_enter Try.func95, Try.ntmps95
    go_wp2_with fail
    obtain ⟨KA, hKA⟩ : ∃ KA : Array Value, KA = #[.int .i64 p0, .int .i64 p1, .int .i64 p2, .int .i64 p3] := ⟨_, rfl⟩
    have KAT := Lib.hid (fun (j : Nat) (hj : j < 4) => show ∀ W, (Instr.index 110 (.agg KA) (.int .i64 (j : Int))).run Try.prog W = .ok (.int .i64 (if h : j < t.ks.length then (num L t.ks[j] : Int) else 0)) W from fun W => by
      rw [hKA]
      exact run_index4 p0 p1 p2 p3 j hj _ (PA.out j hj) W)
    rw [← hKA]
    clear hKA PA c0 c1 c2 c3 c4 c5 q0 q1 q2
    go_loopw [25] (fun i wx => ∃ (j : Nat) (A1 : Option Addr) (c1 : Nat) (cs : List (Option Addr × Nat)), j ≤ 4 ∧ i = .int .i64 j ∧ BdS w wx t j A1 c1 cs) (fun i _ => 4 - (intOf i).toNat)
    case atStart => exact ⟨0, _, _, _, by omega, rfl, START.out⟩
    case round =>
      obtain ⟨m1, A1, c1, cs, hj4, rfl, hBD⟩ := hrel
      have BD := Lib.hid hBD
      have hlen1 : (t.ks.take m1).length ≤ 4 := by simp; omega
      clear hBD
      by_cases hlt : m1 < 4
      · have kat := KAT.out m1 hlt
        by_cases hlk : m1 < t.ks.length
        · rw [dif_pos hlk] at kat
          have NEXT := Lib.hid (show t.ks.take (m1 + 1) = t.ks.take m1 ++ [t.ks[m1]] from List.take_succ_eq_append_getElem hlk)
          obtain ⟨jj, hjj, hnum, hL⟩ := IH.out t.ks[m1] (List.getElem_mem hlk)
          obtain ⟨q, hq⟩ : ∃ q, q = t.ks[m1] := ⟨_, rfl⟩
          rw [← hq] at hnum hL NEXT kat
          obtain ⟨ts, hts⟩ : ∃ ts, ts = t.ks.take m1 := ⟨_, rfl⟩
          have LW := Lib.hid BD.out.lay
          have BR := Lib.hid BD.out.br
          rw [← hts] at LW NEXT hlen1
          have hd : Below wr.heap.size wr wr.drew := (Below.refl _ _).drew
          have hjl : jj < L.length := (List.getElem?_eq_some_iff.1 hL).1
          have CALL := Lib.hid (BUILD.out jj hjj hjl wr.drew _ _ ((TT.out.keep LW.out.below).keep hd))
          rw [(List.getElem?_eq_some_iff.1 hL).2] at CALL
          rw [hnum, show ((jj + 1 : Nat) : Int) = (jj : Int) + 1 by omega] at kat
          have hne : ((jj : Int) + 1 != 0) = true := by rw [bne_iff_ne]; omega
          have x4 : wr.drew.cell? ⟨w.heap.size + 2, 2, none⟩ = some (.slice A1 ts.length c1) := LW.out.box.cells.2.2
          have hbl := LW.out.box.lt
          clear hnum hL hq hjl hts
          go_wp2_with fail
          refine wp_region_held_drew (S := fun _ => True) (by kernel_rfl) trivial (fun hHeld => ?_)
          refine wpAnyH_take (i := 0) (oi := { dst := some 30, op := Op.fieldAddr 24 (Operand.tmp 6) 2, type := 0, pos := "intern.go:132", after := #[], guard := none }) (v := ?_) rfl (by kernel_rfl) (by kernel_rfl) (by kernel_rfl) (fun _ _ _ h => h) (Or.inl ⟨by rfl, ?_⟩) hHeld ?_
          rotate_left
          · intro w hSw; go_simp; (try with_reducible rfl)
          (try simp only [Act.put, List.setIfInBounds_toArray, List.set_cons_zero, List.set_cons_succ])
          refine wpAnyH_take (i := 2) (oi := { dst := some 32, op := Op.move (Operand.tmp 0), type := 35, pos := "intern.go:132", after := #[], guard := none }) (v := ?_) rfl (by kernel_rfl) (by kernel_rfl) (by kernel_rfl) (fun _ _ _ h => h) (Or.inl ⟨by rfl, ?_⟩) hHeld ?_
          rotate_left
          · intro w hSw; go_simp; (try with_reducible rfl)
          (try simp only [Act.put, List.setIfInBounds_toArray, List.set_cons_zero, List.set_cons_succ])
          refine wpAnyH_take (i := 3) (oi := { dst := some 33, op := Op.move (Operand.tmp 8), type := 3, pos := "intern.go:132", after := #[], guard := none }) (v := ?_) rfl (by kernel_rfl) (by kernel_rfl) (by kernel_rfl) (fun _ _ _ h => h) (Or.inl ⟨by rfl, ?_⟩) hHeld ?_
          rotate_left
          · intro w hSw; go_simp; (try with_reducible rfl)
          (try simp only [Act.put, List.setIfInBounds_toArray, List.set_cons_zero, List.set_cons_succ])
          refine wpAnyH_ready (rs := [1, 4]) (by kernel_rfl) (by simp) ?_
          refine AllReadyH.cons (o := { dst := some 31, op := Op.load 22 (Operand.tmp 30), type := 22, pos := "intern.go:132", after := #[{ on := 0, ground := Ground.data }], guard := none }) rfl (fun K hK => ?_) ?_
          · go_simp
            refine hK.out _ _ trivial (fun hHeld => ?_)
            clear hK K
            (try simp only [Act.put, List.setIfInBounds_toArray, List.set_cons_zero, List.set_cons_succ])
            refine wpAnyH_ready (rs := [4]) (by kernel_rfl) (by simp) ?_
            refine AllReadyH.cons (o := { dst := some 34, op := Op.call { callee := Callee.value (Operand.func 95), args := #[Operand.tmp 32, Operand.tmp 33], argTypes := #[35, 3] }, type := 24, pos := "intern.go:132", after := #[{ on := 2, ground := Ground.data }, { on := 3, ground := Ground.data }], guard := none }) rfl (fun K hK => ?_) AllReadyH.nil
            go_simp
            refine CALL.out.mono ?_
            rintro e w5 ⟨A5, c5, rfl, ho5, hb5⟩
            have H5 := Lib.hid (hd.trans hb5)
            have O5 := Lib.hid ho5
            have x5 := ((H5.out.cell LW.out.box.lt).trans LW.out.box.cells.2.2)
            have x6 := fun o => (((below_al w5 o).cell (Nat.lt_of_lt_of_le LW.out.box.lt H5.out.size)).trans x5)
            have hs5 := H5.out.size
            clear ho5 hb5
            (try go_wp2_with fail)
            refine hK.out _ _ trivial (fun hHeld => ?_)
            clear hK K
            (try simp only [Act.put, List.setIfInBounds_toArray, List.set_cons_zero, List.set_cons_succ])
            refine wpAnyH_ready (rs := [5]) (by kernel_rfl) (by simp) ?_
            refine AllReadyH.cons (o := { dst := some 35, op := Op.buildSlice 22 1 #[(0, Operand.tmp 34)], type := 22, pos := "intern.go:132", after := #[{ on := 4, ground := Ground.data }], guard := none }) rfl (fun K hK => ?_) AllReadyH.nil
            go_simp
            refine hK.out _ _ trivial (fun hHeld => ?_)
            clear hK K
            (try simp only [Act.put, List.setIfInBounds_toArray, List.set_cons_zero, List.set_cons_succ])
            refine wpAnyH_ready (rs := [6]) (by kernel_rfl) (by simp) ?_
            refine AllReadyH.cons (o := { dst := some 36, op := Op.call { callee := Callee.builtin Builtin.append, args := #[Operand.tmp 31, Operand.tmp 35], argTypes := #[22, 22] }, type := 22, pos := "intern.go:132", after := #[{ on := 1, ground := Ground.data }, { on := 5, ground := Ground.data }, { on := 4, ground := Ground.chain }], guard := none }) rfl (fun K hK => ?_) AllReadyH.nil
            refine step_append_lies _ rfl _ _ _ rfl (w.heap.size + 3) 24 i0 _ 3 40 Try.underlying22 HI.out.1 HI.out.2.1 HI.out.2.2.1 HI.out.2.2.2 (by rfl) (by omega) (.slice A1 ts.length c1) ts.length (rowC ts cs) (by rfl) (by exact (ownsRow_same (hi := wr.heap.size) LW.out.own (fun k _ k2 => H5.out.block k k2) (fun g e => (LW.out.own.lt g e).2)).alloc _) ⟨w5.heap.size, 0, none⟩ 1 1 [.int .i64 q.k, .int .i64 q.i, .slice A5 q.ks.length c5] (by rfl) (by rfl) (by exact World.news_of_block (heap_alloc_last w5 _)) (by simp [Value.oneCell']) (by omega) (by unfold maxLen; omega) (by omega) (by simp; omega) (w5.heap.size + 1) (by simp) ?_
            intro g4 cap4 w6 hown6 hgrow6 hat6 hlt6
            have NL := Lib.hid (LW.out.stepG H5.out O5.out (below_al w5 _) hown6 hgrow6 (hat6.imp id (fun h => h.trans (World.size_alloc _ _).symm)))
            have hOB := fun k => LW.out.own.lt k
            have e6 : Box3 w6 (w.heap.size + 2) (.int .i64 t.k) (.int .i64 t.i) (.slice A1 ts.length c1) := (hgrow6.block _ (by have := LW.out.box.lt; simp; omega) (fun e => by have := hOB _ e.symm; omega)).trans (((below_al w5 _).block _ (by have := LW.out.box.lt; omega)).trans ((H5.out.block _ LW.out.box.lt).trans LW.out.box))
            have x7 := e6.cells.2.2
            have x8 := e6.frozen 2
            have RB := Lib.hid (show Box3 (w6.setCell ⟨w.heap.size + 2, 2, none⟩ (.slice (some ⟨g4, 0, none⟩) (ts.length + 1) cap4)) w.heap.size (.int .i64 0) (.int .i64 0) (.slice none 0 0) from Box3.set_other ((hgrow6.block _ (by have := BR.out.lt; simp; omega) (fun e => by have := hOB _ e.symm; omega)).trans (((below_al w5 _).block _ (by have := BR.out.lt; omega)).trans ((H5.out.block _ BR.out.lt).trans BR.out))) _ _ (by show w.heap.size ≠ w.heap.size + 2; omega))
            replace e6 := Lib.hid e6
            clear hown6 hgrow6 hat6 hOB
            refine hK.out _ _ trivial (fun hHeld => ?_)
            clear hK K
            (try simp only [Act.put, List.setIfInBounds_toArray, List.set_cons_zero, List.set_cons_succ])
            refine wpAnyH_take (i := 7) (oi := { dst := some 37, op := Op.fieldAddr 24 (Operand.tmp 6) 2, type := 0, pos := "intern.go:132", after := #[{ on := 0, ground := Ground.phase }, { on := 1, ground := Ground.phase }, { on := 2, ground := Ground.phase }, { on := 3, ground := Ground.phase }, { on := 4, ground := Ground.phase }, { on := 5, ground := Ground.phase }, { on := 6, ground := Ground.phase }], guard := none }) (v := ?_) rfl (by kernel_rfl) (by kernel_rfl) (by kernel_rfl) (fun _ _ _ h => h) (Or.inl ⟨by rfl, ?_⟩) hHeld ?_
            rotate_left
            · intro w hSw; go_simp; (try with_reducible rfl)
            (try simp only [Act.put, List.setIfInBounds_toArray, List.set_cons_zero, List.set_cons_succ])
            refine wpAnyH_ready (rs := [8]) (by kernel_rfl) (by simp) ?_
            refine AllReadyH.cons (o := { dst := none, op := Op.store 22 (Operand.tmp 37) (Operand.tmp 36), type := 0, pos := "intern.go:132", after := #[{ on := 7, ground := Ground.data }, { on := 6, ground := Ground.data }, { on := 6, ground := Ground.chain }, { on := 0, ground := Ground.phase }, { on := 1, ground := Ground.phase }, { on := 2, ground := Ground.phase }, { on := 3, ground := Ground.phase }, { on := 4, ground := Ground.phase }, { on := 5, ground := Ground.phase }, { on := 6, ground := Ground.phase }], guard := none }) rfl (fun K hK => ?_) AllReadyH.nil
            go_simp
            refine hK.out _ _ trivial (fun hHeld => ?_)
            clear hK K
            (try simp only [Act.put, List.setIfInBounds_toArray, List.set_cons_zero, List.set_cons_succ])
            refine wpAnyH_done (by kernel_rfl) ?_ _
            go_wp2_with fail
            go_roundw
            case rel => exact ⟨m1 + 1, _, _, _, by omega, by go_num, ⟨by rw [NEXT.out]; exact NL.out, RB.out⟩⟩
            case measure => simp [intOf]; omega
          · refine AllReadyH.cons (o := { dst := some 34, op := Op.call { callee := Callee.value (Operand.func 95), args := #[Operand.tmp 32, Operand.tmp 33], argTypes := #[35, 3] }, type := 24, pos := "intern.go:132", after := #[{ on := 2, ground := Ground.data }, { on := 3, ground := Ground.data }], guard := none }) rfl (fun K hK => ?_) AllReadyH.nil
            go_simp
            refine CALL.out.mono ?_
            rintro e w5 ⟨A5, c5, rfl, ho5, hb5⟩
            have H5 := Lib.hid (hd.trans hb5)
            have O5 := Lib.hid ho5
            have x5 := ((H5.out.cell LW.out.box.lt).trans LW.out.box.cells.2.2)
            have x6 := fun o => (((below_al w5 o).cell (Nat.lt_of_lt_of_le LW.out.box.lt H5.out.size)).trans x5)
            have hs5 := H5.out.size
            clear ho5 hb5
            (try go_wp2_with fail)
            refine hK.out _ _ trivial (fun hHeld => ?_)
            clear hK K
            (try simp only [Act.put, List.setIfInBounds_toArray, List.set_cons_zero, List.set_cons_succ])
            refine wpAnyH_ready (rs := [1, 5]) (by kernel_rfl) (by simp) ?_
            refine AllReadyH.cons (o := { dst := some 31, op := Op.load 22 (Operand.tmp 30), type := 22, pos := "intern.go:132", after := #[{ on := 0, ground := Ground.data }], guard := none }) rfl (fun K hK => ?_) ?_
            · go_simp
              refine hK.out _ _ trivial (fun hHeld => ?_)
              clear hK K
              (try simp only [Act.put, List.setIfInBounds_toArray, List.set_cons_zero, List.set_cons_succ])
              refine wpAnyH_ready (rs := [5]) (by kernel_rfl) (by simp) ?_
              refine AllReadyH.cons (o := { dst := some 35, op := Op.buildSlice 22 1 #[(0, Operand.tmp 34)], type := 22, pos := "intern.go:132", after := #[{ on := 4, ground := Ground.data }], guard := none }) rfl (fun K hK => ?_) AllReadyH.nil
              go_simp
              refine hK.out _ _ trivial (fun hHeld => ?_)
              clear hK K
              (try simp only [Act.put, List.setIfInBounds_toArray, List.set_cons_zero, List.set_cons_succ])
              refine wpAnyH_ready (rs := [6]) (by kernel_rfl) (by simp) ?_
              refine AllReadyH.cons (o := { dst := some 36, op := Op.call { callee := Callee.builtin Builtin.append, args := #[Operand.tmp 31, Operand.tmp 35], argTypes := #[22, 22] }, type := 22, pos := "intern.go:132", after := #[{ on := 1, ground := Ground.data }, { on := 5, ground := Ground.data }, { on := 4, ground := Ground.chain }], guard := none }) rfl (fun K hK => ?_) AllReadyH.nil
              refine step_append_lies _ rfl _ _ _ rfl (w.heap.size + 3) 24 i0 _ 3 40 Try.underlying22 HI.out.1 HI.out.2.1 HI.out.2.2.1 HI.out.2.2.2 (by rfl) (by omega) (.slice A1 ts.length c1) ts.length (rowC ts cs) (by rfl) (by exact (ownsRow_same (hi := wr.heap.size) LW.out.own (fun k _ k2 => H5.out.block k k2) (fun g e => (LW.out.own.lt g e).2)).alloc _) ⟨w5.heap.size, 0, none⟩ 1 1 [.int .i64 q.k, .int .i64 q.i, .slice A5 q.ks.length c5] (by rfl) (by rfl) (by exact World.news_of_block (heap_alloc_last w5 _)) (by simp [Value.oneCell']) (by omega) (by unfold maxLen; omega) (by omega) (by simp; omega) (w5.heap.size + 1) (by simp) ?_
              intro g4 cap4 w6 hown6 hgrow6 hat6 hlt6
              have NL := Lib.hid (LW.out.stepG H5.out O5.out (below_al w5 _) hown6 hgrow6 (hat6.imp id (fun h => h.trans (World.size_alloc _ _).symm)))
              have hOB := fun k => LW.out.own.lt k
              have e6 : Box3 w6 (w.heap.size + 2) (.int .i64 t.k) (.int .i64 t.i) (.slice A1 ts.length c1) := (hgrow6.block _ (by have := LW.out.box.lt; simp; omega) (fun e => by have := hOB _ e.symm; omega)).trans (((below_al w5 _).block _ (by have := LW.out.box.lt; omega)).trans ((H5.out.block _ LW.out.box.lt).trans LW.out.box))
              have x7 := e6.cells.2.2
              have x8 := e6.frozen 2
              have RB := Lib.hid (show Box3 (w6.setCell ⟨w.heap.size + 2, 2, none⟩ (.slice (some ⟨g4, 0, none⟩) (ts.length + 1) cap4)) w.heap.size (.int .i64 0) (.int .i64 0) (.slice none 0 0) from Box3.set_other ((hgrow6.block _ (by have := BR.out.lt; simp; omega) (fun e => by have := hOB _ e.symm; omega)).trans (((below_al w5 _).block _ (by have := BR.out.lt; omega)).trans ((H5.out.block _ BR.out.lt).trans BR.out))) _ _ (by show w.heap.size ≠ w.heap.size + 2; omega))
              replace e6 := Lib.hid e6
              clear hown6 hgrow6 hat6 hOB
              refine hK.out _ _ trivial (fun hHeld => ?_)
              clear hK K
              (try simp only [Act.put, List.setIfInBounds_toArray, List.set_cons_zero, List.set_cons_succ])
              refine wpAnyH_take (i := 7) (oi := { dst := some 37, op := Op.fieldAddr 24 (Operand.tmp 6) 2, type := 0, pos := "intern.go:132", after := #[{ on := 0, ground := Ground.phase }, { on := 1, ground := Ground.phase }, { on := 2, ground := Ground.phase }, { on := 3, ground := Ground.phase }, { on := 4, ground := Ground.phase }, { on := 5, ground := Ground.phase }, { on := 6, ground := Ground.phase }], guard := none }) (v := ?_) rfl (by kernel_rfl) (by kernel_rfl) (by kernel_rfl) (fun _ _ _ h => h) (Or.inl ⟨by rfl, ?_⟩) hHeld ?_
              rotate_left
              · intro w hSw; go_simp; (try with_reducible rfl)
              (try simp only [Act.put, List.setIfInBounds_toArray, List.set_cons_zero, List.set_cons_succ])
              refine wpAnyH_ready (rs := [8]) (by kernel_rfl) (by simp) ?_
              refine AllReadyH.cons (o := { dst := none, op := Op.store 22 (Operand.tmp 37) (Operand.tmp 36), type := 0, pos := "intern.go:132", after := #[{ on := 7, ground := Ground.data }, { on := 6, ground := Ground.data }, { on := 6, ground := Ground.chain }, { on := 0, ground := Ground.phase }, { on := 1, ground := Ground.phase }, { on := 2, ground := Ground.phase }, { on := 3, ground := Ground.phase }, { on := 4, ground := Ground.phase }, { on := 5, ground := Ground.phase }, { on := 6, ground := Ground.phase }], guard := none }) rfl (fun K hK => ?_) AllReadyH.nil
              go_simp
              refine hK.out _ _ trivial (fun hHeld => ?_)
              clear hK K
              (try simp only [Act.put, List.setIfInBounds_toArray, List.set_cons_zero, List.set_cons_succ])
              refine wpAnyH_done (by kernel_rfl) ?_ _
              go_wp2_with fail
              go_roundw
              case rel => exact ⟨m1 + 1, _, _, _, by omega, by go_num, ⟨by rw [NEXT.out]; exact NL.out, RB.out⟩⟩
              case measure => simp [intOf]; omega
            · refine AllReadyH.cons (o := { dst := some 35, op := Op.buildSlice 22 1 #[(0, Operand.tmp 34)], type := 22, pos := "intern.go:132", after := #[{ on := 4, ground := Ground.data }], guard := none }) rfl (fun K hK => ?_) AllReadyH.nil
              go_simp
              refine hK.out _ _ trivial (fun hHeld => ?_)
              clear hK K
              (try simp only [Act.put, List.setIfInBounds_toArray, List.set_cons_zero, List.set_cons_succ])
              refine wpAnyH_ready (rs := [1]) (by kernel_rfl) (by simp) ?_
              refine AllReadyH.cons (o := { dst := some 31, op := Op.load 22 (Operand.tmp 30), type := 22, pos := "intern.go:132", after := #[{ on := 0, ground := Ground.data }], guard := none }) rfl (fun K hK => ?_) AllReadyH.nil
              go_simp
              refine hK.out _ _ trivial (fun hHeld => ?_)
              clear hK K
              (try simp only [Act.put, List.setIfInBounds_toArray, List.set_cons_zero, List.set_cons_succ])
              refine wpAnyH_ready (rs := [6]) (by kernel_rfl) (by simp) ?_
              refine AllReadyH.cons (o := { dst := some 36, op := Op.call { callee := Callee.builtin Builtin.append, args := #[Operand.tmp 31, Operand.tmp 35], argTypes := #[22, 22] }, type := 22, pos := "intern.go:132", after := #[{ on := 1, ground := Ground.data }, { on := 5, ground := Ground.data }, { on := 4, ground := Ground.chain }], guard := none }) rfl (fun K hK => ?_) AllReadyH.nil
              refine step_append_lies _ rfl _ _ _ rfl (w.heap.size + 3) 24 i0 _ 3 40 Try.underlying22 HI.out.1 HI.out.2.1 HI.out.2.2.1 HI.out.2.2.2 (by rfl) (by omega) (.slice A1 ts.length c1) ts.length (rowC ts cs) (by rfl) (by exact (ownsRow_same (hi := wr.heap.size) LW.out.own (fun k _ k2 => H5.out.block k k2) (fun g e => (LW.out.own.lt g e).2)).alloc _) ⟨w5.heap.size, 0, none⟩ 1 1 [.int .i64 q.k, .int .i64 q.i, .slice A5 q.ks.length c5] (by rfl) (by rfl) (by exact World.news_of_block (heap_alloc_last w5 _)) (by simp [Value.oneCell']) (by omega) (by unfold maxLen; omega) (by omega) (by simp; omega) (w5.heap.size + 1) (by simp) ?_
              intro g4 cap4 w6 hown6 hgrow6 hat6 hlt6
              have NL := Lib.hid (LW.out.stepG H5.out O5.out (below_al w5 _) hown6 hgrow6 (hat6.imp id (fun h => h.trans (World.size_alloc _ _).symm)))
              have hOB := fun k => LW.out.own.lt k
              have e6 : Box3 w6 (w.heap.size + 2) (.int .i64 t.k) (.int .i64 t.i) (.slice A1 ts.length c1) := (hgrow6.block _ (by have := LW.out.box.lt; simp; omega) (fun e => by have := hOB _ e.symm; omega)).trans (((below_al w5 _).block _ (by have := LW.out.box.lt; omega)).trans ((H5.out.block _ LW.out.box.lt).trans LW.out.box))
              have x7 := e6.cells.2.2
              have x8 := e6.frozen 2
              have RB := Lib.hid (show Box3 (w6.setCell ⟨w.heap.size + 2, 2, none⟩ (.slice (some ⟨g4, 0, none⟩) (ts.length + 1) cap4)) w.heap.size (.int .i64 0) (.int .i64 0) (.slice none 0 0) from Box3.set_other ((hgrow6.block _ (by have := BR.out.lt; simp; omega) (fun e => by have := hOB _ e.symm; omega)).trans (((below_al w5 _).block _ (by have := BR.out.lt; omega)).trans ((H5.out.block _ BR.out.lt).trans BR.out))) _ _ (by show w.heap.size ≠ w.heap.size + 2; omega))
              replace e6 := Lib.hid e6
              clear hown6 hgrow6 hat6 hOB
              refine hK.out _ _ trivial (fun hHeld => ?_)
              clear hK K
              (try simp only [Act.put, List.setIfInBounds_toArray, List.set_cons_zero, List.set_cons_succ])
              refine wpAnyH_take (i := 7) (oi := { dst := some 37, op := Op.fieldAddr 24 (Operand.tmp 6) 2, type := 0, pos := "intern.go:132", after := #[{ on := 0, ground := Ground.phase }, { on := 1, ground := Ground.phase }, { on := 2, ground := Ground.phase }, { on := 3, ground := Ground.phase }, { on := 4, ground := Ground.phase }, { on := 5, ground := Ground.phase }, { on := 6, ground := Ground.phase }], guard := none }) (v := ?_) rfl (by kernel_rfl) (by kernel_rfl) (by kernel_rfl) (fun _ _ _ h => h) (Or.inl ⟨by rfl, ?_⟩) hHeld ?_
              rotate_left
              · intro w hSw; go_simp; (try with_reducible rfl)
              (try simp only [Act.put, List.setIfInBounds_toArray, List.set_cons_zero, List.set_cons_succ])
              refine wpAnyH_ready (rs := [8]) (by kernel_rfl) (by simp) ?_
              refine AllReadyH.cons (o := { dst := none, op := Op.store 22 (Operand.tmp 37) (Operand.tmp 36), type := 0, pos := "intern.go:132", after := #[{ on := 7, ground := Ground.data }, { on := 6, ground := Ground.data }, { on := 6, ground := Ground.chain }, { on := 0, ground := Ground.phase }, { on := 1, ground := Ground.phase }, { on := 2, ground := Ground.phase }, { on := 3, ground := Ground.phase }, { on := 4, ground := Ground.phase }, { on := 5, ground := Ground.phase }, { on := 6, ground := Ground.phase }], guard := none }) rfl (fun K hK => ?_) AllReadyH.nil
              go_simp
              refine hK.out _ _ trivial (fun hHeld => ?_)
              clear hK K
              (try simp only [Act.put, List.setIfInBounds_toArray, List.set_cons_zero, List.set_cons_succ])
              refine wpAnyH_done (by kernel_rfl) ?_ _
              go_wp2_with fail
              go_roundw
              case rel => exact ⟨m1 + 1, _, _, _, by omega, by go_num, ⟨by rw [NEXT.out]; exact NL.out, RB.out⟩⟩
              case measure => simp [intOf]; omega
        · rw [dif_neg hlk] at kat
          have hne : ((0 : Int) != 0) = false := rfl
          have NEXT := Lib.hid (show t.ks.take (m1 + 1) = t.ks.take m1 by rw [List.take_of_length_le (by omega), List.take_of_length_le (by omega)])
          go_wp2_with fail
          go_roundw
          case rel => exact ⟨m1 + 1, _, _, _, by omega, by go_num, ⟨by rw [NEXT.out]; exact BD.out.lay, BD.out.br⟩⟩
          case measure => simp [intOf]; omega
      · obtain rfl : m1 = 4 := by omega
        have TAKE := Lib.hid (show t.ks.take 4 = t.ks from List.take_of_length_le h4)
        have LY := BD.out.lay
        rw [TAKE.out] at LY
        obtain ⟨e0, e1, e2⟩ := LY.box.cells
        obtain ⟨y0, y1, y2⟩ := BD.out.br.cells
        have f0 := BD.out.br.frozen 0
        have f1 := BD.out.br.frozen 1
        have f2 := BD.out.br.frozen 2
        replace LY := Lib.hid LY
        go_wp2_with fail
        refine bodyPost_ret (v := .agg #[.int .i64 t.k, .int .i64 t.i, .slice A1 t.ks.length c1]) (by simp [results, Try.results95, go_sem, y0, y1, y2]) rfl ⟨A1, c1, rfl, ?_, ?_⟩
        · have hs : SameIn (w.heap.size + 3) wr.heap.size wr (((wr.setCell ⟨w.heap.size, 0, none⟩ (.int .i64 t.k)).setCell ⟨w.heap.size, 1, none⟩ (.int .i64 t.i)).setCell ⟨w.heap.size, 2, none⟩ (.slice A1 t.ks.length c1)) := same_set3 _ _ _ _ _ (by omega)
          have := (LY.out.done.same _ hs).lower (lo' := w.heap.size) (by omega)
          simpa using this
        · exact below_set3 LY.out.below _ _ _ (by omega)
end Go.Proofs.Ytmmdhlemkcddmaa
