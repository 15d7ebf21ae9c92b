/- add of package intern, walked. -/
import Derived.Test.YtmmdhlemkcddmaaI6
namespace Go.Proofs.Ytmmdhlemkcddmaa
open Go.RowKit
set_option linter.unusedVariables false
set_option linter.unusedSimpArgs false
set_option maxHeartbeats 4000000 in
set_option maxRecDepth 100000 in
theorem add_acts (w0 : World) (tl lo P M room : Nat) (hlo : tl ≤ lo) : ∀ (t : Tr), rightN t = 0 → Acts 48 (addN room) (addX room) w0 tl lo P M room t := by
  intro t
  induction t using Tr.ind with
  | h t ih =>
    intro hr w L A c At ct hb htl hT ht
    have IH := Lib.hid (fun q (hq : q ∈ t.ks) => ih q hq (right_kid hr hq))
    have h4 := (kind_of_shp t (right_shp' hr).1).2.2.2.2
    have hbe := below_al w (.cells #[.int .i64 t.k, .int .i64 t.i, .slice At t.ks.length ct] 24)
    have T1 := Lib.hid (hT.keep hbe)
    have A1 := Lib.hid ((Aft.refl (tl := tl) hT).keep hbe htl)
    have B1 := Lib.hid (hb.trans (hbe.mono htl))
    obtain ⟨y0, y1, y2⟩ := (Box3.new w (.int .i64 t.k) (.int .i64 t.i) (.slice At t.ks.length ct)).cells
    have HT := Lib.hid ht
    obtain ⟨f1, f2, f3, f4, f5, f6⟩ := nodK_add room t.ks L hT.ok hT.le (fun q hq => right_kid hr hq)
    have hrm := hT.rm
    have hloP := hT.loP
    have hloM := hT.loM
    have RT := Lib.hid hr
    have EQ := Lib.hid (addT_eq room t L)
    have KM := Lib.hid (addK_mem room t.ks L hT.ok hT.le (fun q hq => right_kid hr hq))
    clear ih hr hb hT ht hbe
    obtain ⟨X, hX⟩ : ∃ X, X = nodK (addN room) (addX room) t.ks L := ⟨_, rfl⟩
    have NO := Lib.hid (fun (W : World) (hW : W = w.alloc (.cells #[.int .i64 t.k, .int .i64 t.i, .slice At t.ks.length ct] 24)) => nodeOf_any 48 (addN room) (addX room) w0 tl lo P M room (fun _ _ => by first | (go_simp; done) | rfl) t h4 IH.out W L A c At ct (by rw [hW]; exact B1.out) (by rw [hW]; simp; omega) (by rw [hW]; exact T1.out) HT.out)
    rw [← hX] at NO f1 f2 f3
    obtain ⟨L1, hL1⟩ : ∃ L1, L1 = (addK room t.ks L).1 := ⟨_, rfl⟩
    obtain ⟨kb, hkb⟩ : ∃ kb, kb = (addK room t.ks L).2 := ⟨_, rfl⟩
    have KIDS := Lib.hid (show kb = true → ∀ q ∈ t.ks, q ∈ L1 from fun e q hq => by
      rw [hL1]
      exact KM.out (by rw [← hkb]; exact e) q hq)
    rw [← hL1] at f1 f3 f4 f5 f6 EQ
    rw [← hkb] at f2 f3 EQ
    have F1 := Lib.hid f1
    have F2 := Lib.hid f2
    have F3 := Lib.hid f3
    have F4 := Lib.hid f4
    have F5 := Lib.hid f5
    have GK := Lib.hid (goodKey (L := L1) (Nat.le_trans f5 hrm) (right_shp' RT.out).1)
    clear hX f1 f2 f3 f4 f6 hL1 hkb
    go_enter Try.func48, Try.ntmps48
    go_wp2_with fail
    refine (NO.out _ rfl).mono ?_
    rintro e w1 ⟨rfl, A2, c2, hA⟩
    rw [F1.out] at hA
    have AF := Lib.hid (A1.out.trans hA)
    have EB := Lib.hid ((hA.kp.block w.heap.size (by simp) (T1.out.ne (Box3.new w (.int .i64 t.k) (.int .i64 t.i) (.slice At t.ks.length ct)) (by decide) (by decide))).trans (Box3.new w (.int .i64 t.k) (.int .i64 t.i) (.slice At t.ks.length ct)))
    have hsz := AF.out.kp.size
    have BB := Lib.hid (B1.out.trans hA.bel)
    clear hA y0 y1 y2 NO
    obtain ⟨XL, Xn, Xb⟩ := X
    simp only [nodR] at *
    have XB : Xb = kb := F2.out
    subst XB
    cases Xb
    · have NU := Lib.hid (show addT room t L = (L1, 0) by rw [EQ.out]; simp)
      simp only [Bool.false_eq_true, if_false, keyA, zeros6, List.map_cons, List.map_nil]
      have AL := Lib.hid (AF.out.keep (below_al w1 (.cells #[.int .i64 0, .int .i64 0, .int .i64 0, .int .i64 0, .int .i64 0, .int .i64 0] 112)) (by omega))
      go_wp2_with fail
      go_ret
      exact ⟨by simp only [addN]; rw [NU.out]; rfl, A2, c2, by simp only [addX]; rw [NU.out]; exact AL.out⟩
    · have hk := KIDS.out rfl
      have hns := F3.out rfl
      try simp only at hns
      have NU := Lib.hid (show ∀ f, MapOf L1 f → f (nodeT L1 t) = num L1 t from fun f hf => hf.num F4.out hk h4)
      have NT := Lib.hid (show nodeT L1 t = nodeT L1 t from rfl)
      obtain ⟨p0, p1, p2, p3, hp⟩ : ∃ p0 p1 p2 p3, pad4 (t.ks.map (num L1)) = [p0, p1, p2, p3] := by
        have := pad4_len (l := t.ks.map (num L1)) (by simpa using h4)
        match hq : pad4 (t.ks.map (num L1)), this with
        | [a, b, c, d], _ => exact ⟨a, b, c, d, rfl⟩
      have hnode : nodeT L1 t = [t.k, t.i, p0, p1, p2, p3] := by unfold nodeT; rw [hp]
      rw [hns, hp]
      have HND := Lib.hid hnode
      rw [hnode] at GK NU
      simp only [if_true, keyA, List.map_cons, List.map_nil]
      have RG := Lib.hid (show Rg tl lo P M room w0 w (w1.alloc (.cells #[.int .i64 t.k, .int .i64 t.i, .int .i64 p0, .int .i64 p1, .int .i64 p2, .int .i64 p3] 112)) A L1 A2 c2 t At ct w1.heap.size [t.k, t.i, p0, p1, p2, p3] from
        ⟨AF.out.keep (below_al w1 _) (by omega), (Box3.keep EB.out (below_al w1 _) (Box3.lt EB.out)), heap_alloc_last w1 _, BB.out.trans ((below_al w1 _).mono (by omega)), htl⟩)
      have LK := Lib.hid (show ∀ W, Tab W lo P M room L1 A2 c2 → (Instr.lookup 72 (.map (some M)) (.agg #[.int .i64 t.k, .int .i64 t.i, .int .i64 p0, .int .i64 p1, .int .i64 p2, .int .i64 p3]) false).run Try.prog W = .ok (.int .i64 (num L1 t : Int)) W from fun W hW => by
        obtain ⟨f, hf, hm⟩ := hW.mp
        have := hf.look GK.out
        rw [NU.out f hm] at this
        exact this)
      have HK := Lib.hid hk
      clear hp hnode hk hns AF EB BB
      obtain ⟨W1, hW1⟩ : ∃ W1, W1 = w1.alloc (.cells #[.int .i64 t.k, .int .i64 t.i, .int .i64 p0, .int .i64 p1, .int .i64 p2, .int .i64 p3] 112) := ⟨_, rfl⟩
      rw [← hW1] at RG
      have RD := Lib.hid (RG.out.keep ((Below.refl W1.heap.size W1).drew))
      have LKD := Lib.hid (LK.out _ RD.out.aft.tab)
      rw [hW1] at RD LKD
      go_wp2_with fail
      go_region_held3 (fun w' => w'.cell? ⟨P, 1, none⟩ = some (.map (some M)) ∧ (w'.cell? ⟨w1.heap.size, 0, none⟩ = some (.int .i64 t.k) ∧ w'.cell? ⟨w1.heap.size, 1, none⟩ = some (.int .i64 t.i) ∧ w'.cell? ⟨w1.heap.size, 2, none⟩ = some (.int .i64 p0) ∧ w'.cell? ⟨w1.heap.size, 3, none⟩ = some (.int .i64 p1) ∧ w'.cell? ⟨w1.heap.size, 4, none⟩ = some (.int .i64 p2) ∧ w'.cell? ⟨w1.heap.size, 5, none⟩ = some (.int .i64 p3)) ∧ (Instr.lookup 72 (.map (some M)) (.agg #[.int .i64 t.k, .int .i64 t.i, .int .i64 p0, .int .i64 p1, .int .i64 p2, .int .i64 p3]) false).run Try.prog w' = .ok (.int .i64 (num L1 t : Int)) w')
        (exact ⟨RD.out.aft.tab.cells.2.1, RD.out.kb.cells6, LKD.out⟩) (fail)
      obtain ⟨W2, hW2⟩ : ∃ W2, W2 = (w1.alloc (.cells #[.int .i64 t.k, .int .i64 t.i, .int .i64 p0, .int .i64 p1, .int .i64 p2, .int .i64 p3] 112)).drew := ⟨_, rfl⟩
      rw [← hW2] at RD ⊢
      clear hW2 hW1 RG LKD LK W1
      by_cases h0 : num L1 t = 0
      · have hne : ((num L1 t : Int) != 0) = false := by rw [h0]; rfl
        have NIN := Lib.hid (num_zero.1 h0)
        replace h0 := Lib.hid h0
        have R2 := Lib.hid (RD.out.keep ((Below.refl W2.heap.size W2).drew))
        by_cases hfull : L1.length = room
        · have hfi : ((L1.length : Int) == (room : Int)) = true := by simp [hfull]
          have NUM := Lib.hid (show addT room t L = (L1, 0) by rw [EQ.out]; simp [h0.out, hfull])
          replace hfull := Lib.hid hfull
          go_wp2_with fail
          go_region_held3 (fun w' => w'.cell? ⟨P, 0, none⟩ = some (.int .i64 (room : Int)) ∧ w'.cell? ⟨P, 2, none⟩ = some (.slice A2 L1.length c2))
            (exact ⟨R2.out.aft.tab.cells.1, R2.out.aft.tab.cells.2.2⟩)
            (first | (go_at_call 23; refine (len_cell _ P A2 L1.length c2 (by exact R2.out.aft.tab.cells.2.2)).mono ?_; rintro e w9 ⟨rfl, rfl⟩))
          go_wp2_with fail
          go_ret
          exact ⟨by simp only [addN]; rw [NUM.out]; rfl, A2, c2, by simp only [addX]; rw [NUM.out]; exact R2.out.aft⟩
        · have hfi : ((L1.length : Int) == (room : Int)) = false := by rw [beq_eq_false_iff_ne]; omega
          have NUM := Lib.hid (show addT room t L = (L1 ++ [t], L1.length + 1) by rw [EQ.out]; simp [h0.out, hfull])
          replace hfull := Lib.hid hfull
          obtain ⟨e0, e1, e2⟩ := R2.out.eb.cells
          go_wp2_with fail
          go_region_held3 (fun w' => w'.cell? ⟨P, 0, none⟩ = some (.int .i64 (room : Int)) ∧ w'.cell? ⟨P, 2, none⟩ = some (.slice A2 L1.length c2))
            (exact ⟨R2.out.aft.tab.cells.1, R2.out.aft.tab.cells.2.2⟩)
            (first | (go_at_call 23; refine (len_cell _ P A2 L1.length c2 (by exact R2.out.aft.tab.cells.2.2)).mono ?_; rintro e w9 ⟨rfl, rfl⟩))
          obtain ⟨W3, hW3⟩ : ∃ W3, W3 = W2.drew := ⟨_, rfl⟩
          rw [← hW3] at R2 e0 e1 e2 ⊢
          clear hW3 RD
          have TR := Lib.hid (IsT.keep R2.out.b0 (Nat.le_trans R2.out.htl R2.out.aft.kp.size) t HT.out)
          go_wp2_with fail
          refine (free_any t At ct _ (by exact TR.out)).mono ?_
          rintro e w4 ⟨rfl, hb4⟩
          have R4 := Lib.hid (R2.out.keep hb4)
          rw [valR_ok RT.out]
          obtain ⟨fr, hfr⟩ : ∃ fr, fr = freeT t := ⟨_, rfl⟩
          have HFR := Lib.hid hfr
          rw [← hfr]
          clear hb4 e0 e1 e2 R2 TR hfr
          have ROW := Lib.hid (show rowE1 L1 t = [.int .i64 t.k, .int .i64 t.i, .int .i64 p0, .int .i64 p1, .int .i64 p2, .int .i64 p3, .int .u64 (fr : Int), .int .i64 (t.sz : Int)] by unfold rowE1; rw [HND.out, HFR.out]; rfl)
          obtain ⟨i0, hi, hz0, hz1, hz2⟩ := info_parts infoEn
          have HI := Lib.hid (And.intro hi (And.intro hz0 (And.intro hz1 hz2)))
          clear hi hz0 hz1 hz2
          have hsm := (right_shp' RT.out).2.1
          go_upto_region 10 with fail
          go_cut [] (fun wc => ∃ A5 c5, Mid tl lo P M room w0 w wc A L1 t At ct w1.heap.size [t.k, t.i, p0, p1, p2, p3] A5 c5)
          case first =>
            have TK : Rg tl lo P M room w0 w w4.drew A L1 A2 c2 t At ct w1.heap.size [t.k, t.i, p0, p1, p2, p3] := R4.out.keep ((Below.refl w4.heap.size w4).drew)
            have q2 := TK.aft.tab.cells.2.2
            obtain ⟨S10, hS10⟩ : ∃ S : World → Prop, S = (fun w' => (w'.cell? ⟨w1.heap.size, 0, none⟩ = some (.int .i64 t.k) ∧ w'.cell? ⟨w1.heap.size, 1, none⟩ = some (.int .i64 t.i) ∧ w'.cell? ⟨w1.heap.size, 2, none⟩ = some (.int .i64 p0) ∧ w'.cell? ⟨w1.heap.size, 3, none⟩ = some (.int .i64 p1) ∧ w'.cell? ⟨w1.heap.size, 4, none⟩ = some (.int .i64 p2) ∧ w'.cell? ⟨w1.heap.size, 5, none⟩ = some (.int .i64 p3)) ∧ (w'.cell? ⟨w.heap.size, 0, none⟩ = some (.int .i64 t.k) ∧ w'.cell? ⟨w.heap.size, 1, none⟩ = some (.int .i64 t.i) ∧ w'.cell? ⟨w.heap.size, 2, none⟩ = some (.slice At t.ks.length ct))) := ⟨_, rfl⟩
            refine wp_region_held_drew (S := S10) (by kernel_rfl) (by rw [hS10]; exact ⟨TK.kb.cells6, TK.eb.cells⟩) (fun hHeld => ?_)
            refine wpAnyH_take (i := 0) (oi := { dst := some 40, op := Op.move (Operand.tmp 0), type := 35, pos := "intern.go:104", after := #[], guard := none }) (v := ?_) rfl (by kernel_rfl) (by kernel_rfl) (by kernel_rfl) (fun _ _ _ h => h) (Or.inl ⟨by rfl, ?_⟩) hHeld ?_
            rotate_left
            · intro w hSw; rw [hS10] at hSw; (try dsimp only at hSw); go_simp; (try with_reducible rfl)
            (try simp only [Act.put, List.setIfInBounds_toArray, List.set_cons_zero, List.set_cons_succ])
            refine wpAnyH_take (i := 1) (oi := { dst := some 41, op := Op.move (Operand.tmp 0), type := 35, pos := "intern.go:104", after := #[], guard := none }) (v := ?_) rfl (by kernel_rfl) (by kernel_rfl) (by kernel_rfl) (fun _ _ _ h => h) (Or.inl ⟨by rfl, ?_⟩) hHeld ?_
            rotate_left
            · intro w hSw; rw [hS10] at hSw; (try dsimp only at hSw); go_simp; (try with_reducible rfl)
            (try simp only [Act.put, List.setIfInBounds_toArray, List.set_cons_zero, List.set_cons_succ])
            refine wpAnyH_take (i := 2) (oi := { dst := some 42, op := Op.nilCheck (Operand.tmp 41), type := 0, pos := "intern.go:104", after := #[{ on := 1, ground := Ground.data }], guard := none }) (v := ?_) rfl (by kernel_rfl) (by kernel_rfl) (by kernel_rfl) (fun _ _ _ h => h) (Or.inl ⟨by rfl, ?_⟩) hHeld ?_
            rotate_left
            · intro w hSw; rw [hS10] at hSw; (try dsimp only at hSw); go_simp; (try with_reducible rfl)
            (try simp only [Act.put, List.setIfInBounds_toArray, List.set_cons_zero, List.set_cons_succ])
            refine wpAnyH_take (i := 3) (oi := { dst := some 43, op := Op.fieldAddr 75 (Operand.tmp 42) 2, type := 0, pos := "intern.go:104", after := #[{ on := 2, ground := Ground.data }], guard := none }) (v := ?_) rfl (by kernel_rfl) (by kernel_rfl) (by kernel_rfl) (fun _ _ _ h => h) (Or.inl ⟨by rfl, ?_⟩) hHeld ?_
            rotate_left
            · intro w hSw; rw [hS10] at hSw; (try dsimp only at hSw); go_simp; (try with_reducible rfl)
            (try simp only [Act.put, List.setIfInBounds_toArray, List.set_cons_zero, List.set_cons_succ])
            refine wpAnyH_take (i := 5) (oi := { dst := some 45, op := Op.load 112 (Operand.tmp 5), type := 112, pos := "intern.go:104", after := #[], guard := none }) (v := ?_) rfl (by kernel_rfl) (by kernel_rfl) (by kernel_rfl) (fun _ _ _ h => h) (Or.inl ⟨by rfl, ?_⟩) hHeld ?_
            rotate_left
            · intro w hSw; rw [hS10] at hSw; (try dsimp only at hSw); go_simp; (try with_reducible rfl)
            (try simp only [Act.put, List.setIfInBounds_toArray, List.set_cons_zero, List.set_cons_succ])
            refine wpAnyH_take (i := 6) (oi := { dst := some 46, op := Op.move (Operand.tmp 8), type := 55, pos := "intern.go:104", after := #[], guard := none }) (v := ?_) rfl (by kernel_rfl) (by kernel_rfl) (by kernel_rfl) (fun _ _ _ h => h) (Or.inl ⟨by rfl, ?_⟩) hHeld ?_
            rotate_left
            · intro w hSw; rw [hS10] at hSw; (try dsimp only at hSw); go_simp; (try with_reducible rfl)
            (try simp only [Act.put, List.setIfInBounds_toArray, List.set_cons_zero, List.set_cons_succ])
            refine wpAnyH_take (i := 7) (oi := { dst := some 47, op := Op.load 24 (Operand.tmp 3), type := 24, pos := "intern.go:104", after := #[], guard := none }) (v := ?_) rfl (by kernel_rfl) (by kernel_rfl) (by kernel_rfl) (fun _ _ _ h => h) (Or.inl ⟨by rfl, ?_⟩) hHeld ?_
            rotate_left
            · intro w hSw; rw [hS10] at hSw; (try dsimp only at hSw); go_simp; (try with_reducible rfl)
            (try simp only [Act.put, List.setIfInBounds_toArray, List.set_cons_zero, List.set_cons_succ])
            refine wpAnyH_ready (rs := [4, 8]) (by kernel_rfl) (by simp) ?_
            refine AllReadyH.cons (o := { dst := some 44, op := Op.load 73 (Operand.tmp 43), type := 73, pos := "intern.go:104", after := #[{ on := 3, ground := Ground.data }], guard := none }) rfl (fun K hK => ?_) ?_
            · go_simp
              refine hK.out _ _ ?_ (fun hHeld => ?_)
              · rw [hS10]; exact ⟨TK.kb.cells6, TK.eb.cells⟩
              clear hK K
              (try simp only [Act.put, List.setIfInBounds_toArray, List.set_cons_zero, List.set_cons_succ])
              refine wpAnyH_ready (rs := [8]) (by kernel_rfl) (by simp) ?_
              refine AllReadyH.cons (o := { dst := some 48, op := Op.call { callee := Callee.value (Operand.func 92), args := #[Operand.tmp 47], argTypes := #[24] }, type := 3, pos := "intern.go:104", after := #[{ on := 7, ground := Ground.data }], guard := none }) rfl (fun K hK => ?_) AllReadyH.nil
              go_simp
              refine (size_small t At ct _ (by exact IsT.keep TK.b0 (Nat.le_trans TK.htl TK.aft.kp.size) t HT.out) hsm).mono ?_
              rintro e w5 ⟨rfl, hb5⟩
              replace TK := TK.keep hb5
              have q3 := TK.aft.tab.cells.2.2
              clear hb5
              (try go_wp2_with fail)
              refine hK.out _ _ ?_ (fun hHeld => ?_)
              · rw [hS10]; exact ⟨TK.kb.cells6, TK.eb.cells⟩
              clear hK K
              (try simp only [Act.put, List.setIfInBounds_toArray, List.set_cons_zero, List.set_cons_succ])
              refine wpAnyH_take (i := 9) (oi := { dst := some 49, op := Op.build 116 #[(0, Operand.tmp 45), (1, Operand.tmp 46), (2, Operand.tmp 48)], type := 116, pos := "intern.go:104", after := #[{ on := 5, ground := Ground.data }, { on := 6, ground := Ground.data }, { on := 8, ground := Ground.data }], guard := none }) (v := ?_) rfl (by kernel_rfl) (by kernel_rfl) (by kernel_rfl) (fun _ _ _ h => h) (Or.inl ⟨by rfl, ?_⟩) hHeld ?_
              rotate_left
              · intro w hSw; rw [hS10] at hSw; (try dsimp only at hSw); go_simp; (try with_reducible rfl)
              (try simp only [Act.put, List.setIfInBounds_toArray, List.set_cons_zero, List.set_cons_succ])
              refine wpAnyH_ready (rs := [10]) (by kernel_rfl) (by simp) ?_
              refine AllReadyH.cons (o := { dst := some 50, op := Op.buildSlice 73 1 #[(0, Operand.tmp 49)], type := 73, pos := "intern.go:104", after := #[{ on := 9, ground := Ground.data }], guard := none }) rfl (fun K hK => ?_) AllReadyH.nil
              go_simp
              refine hK.out _ _ ?_ (fun hHeld => ?_)
              · rw [hS10]; exact ⟨(TK.keep (below_al _ _)).kb.cells6, (TK.keep (below_al _ _)).eb.cells⟩
              clear hK K
              (try simp only [Act.put, List.setIfInBounds_toArray, List.set_cons_zero, List.set_cons_succ])
              refine wpAnyH_ready (rs := [11]) (by kernel_rfl) (by simp) ?_
              refine AllReadyH.cons (o := { dst := some 51, op := Op.call { callee := Callee.builtin Builtin.append, args := #[Operand.tmp 44, Operand.tmp 50], argTypes := #[73, 73] }, type := 73, pos := "intern.go:104", after := #[{ on := 4, ground := Ground.data }, { on := 10, ground := Ground.data }, { on := 8, ground := Ground.chain }], guard := none }) rfl (fun K hK => ?_) AllReadyH.nil
              refine step_append_lies _ rfl _ _ _ rfl lo 116 i0 _ 8 64 sliceEn HI.out.1 HI.out.2.1 HI.out.2.2.1 HI.out.2.2.2 (by rfl) (by omega) (.slice A2 L1.length c2) L1.length (rowEn L1 L1) (by rfl) (by exact (TK.keep (below_al _ _)).aft.tab.own) ⟨w5.heap.size, 0, none⟩ 1 1 [.int .i64 t.k, .int .i64 t.i, .int .i64 p0, .int .i64 p1, .int .i64 p2, .int .i64 p3, .int .u64 (fr : Int), .int .i64 (t.sz : Int)] (by rfl) (by rfl) (by exact World.news_of_block (heap_alloc_last w5 _)) (by simp [Value.oneCell']) (by omega) (by unfold maxLen; omega) (by omega) (by have h1 := TK.aft.tab.lt P (.inl rfl); simp; omega) (w5.heap.size + 1) (by simp) ?_
              intro g4 cap4 w6 hown6 hgrow6 hat6 hlt6
              have K4 := Lib.hid ((TK.keep (below_al _ _)).after hgrow6).2
              have cP := ((TK.keep (below_al _ _)).after hgrow6).1.1
              have fP := ((TK.keep (below_al _ _)).after hgrow6).1.2
              have MD := Lib.hid ((TK.keep (below_al _ _)).mid hlo g4 cap4 (w5.heap.size + 1) (by have := TK.aft.kp.size; omega) (by rw [ROW.out]; exact hown6) hgrow6 hat6)
              clear hown6 hgrow6 hat6
              refine hK.out _ _ ?_ (fun hHeld => ?_)
              · rw [hS10]; exact ⟨K4.out.1.cells6, K4.out.2.cells⟩
              clear hK K
              (try simp only [Act.put, List.setIfInBounds_toArray, List.set_cons_zero, List.set_cons_succ])
              refine wpAnyH_take (i := 12) (oi := { dst := some 52, op := Op.nilCheck (Operand.tmp 40), type := 0, pos := "intern.go:104", after := #[{ on := 0, ground := Ground.data }, { on := 0, ground := Ground.phase }, { on := 1, ground := Ground.phase }, { on := 2, ground := Ground.phase }, { on := 3, ground := Ground.phase }, { on := 4, ground := Ground.phase }, { on := 5, ground := Ground.phase }, { on := 6, ground := Ground.phase }, { on := 7, ground := Ground.phase }, { on := 8, ground := Ground.phase }, { on := 9, ground := Ground.phase }, { on := 10, ground := Ground.phase }, { on := 11, ground := Ground.phase }], guard := none }) (v := ?_) rfl (by kernel_rfl) (by kernel_rfl) (by kernel_rfl) (fun _ _ _ h => h) (Or.inl ⟨by rfl, ?_⟩) hHeld ?_
              rotate_left
              · intro w hSw; rw [hS10] at hSw; (try dsimp only at hSw); go_simp; (try with_reducible rfl)
              (try simp only [Act.put, List.setIfInBounds_toArray, List.set_cons_zero, List.set_cons_succ])
              refine wpAnyH_take (i := 13) (oi := { dst := some 53, op := Op.fieldAddr 75 (Operand.tmp 52) 2, type := 0, pos := "intern.go:104", after := #[{ on := 12, ground := Ground.data }, { on := 0, ground := Ground.phase }, { on := 1, ground := Ground.phase }, { on := 2, ground := Ground.phase }, { on := 3, ground := Ground.phase }, { on := 4, ground := Ground.phase }, { on := 5, ground := Ground.phase }, { on := 6, ground := Ground.phase }, { on := 7, ground := Ground.phase }, { on := 8, ground := Ground.phase }, { on := 9, ground := Ground.phase }, { on := 10, ground := Ground.phase }, { on := 11, ground := Ground.phase }], guard := none }) (v := ?_) rfl (by kernel_rfl) (by kernel_rfl) (by kernel_rfl) (fun _ _ _ h => h) (Or.inl ⟨by rfl, ?_⟩) hHeld ?_
              rotate_left
              · intro w hSw; rw [hS10] at hSw; (try dsimp only at hSw); go_simp; (try with_reducible rfl)
              (try simp only [Act.put, List.setIfInBounds_toArray, List.set_cons_zero, List.set_cons_succ])
              refine wpAnyH_ready (rs := [14]) (by kernel_rfl) (by simp) ?_
              refine AllReadyH.cons (o := { dst := none, op := Op.store 73 (Operand.tmp 53) (Operand.tmp 51), type := 0, pos := "intern.go:104", after := #[{ on := 13, ground := Ground.data }, { on := 11, ground := Ground.data }, { on := 11, ground := Ground.chain }, { on := 0, ground := Ground.phase }, { on := 1, ground := Ground.phase }, { on := 2, ground := Ground.phase }, { on := 3, ground := Ground.phase }, { on := 4, ground := Ground.phase }, { on := 5, ground := Ground.phase }, { on := 6, ground := Ground.phase }, { on := 7, ground := Ground.phase }, { on := 8, ground := Ground.phase }, { on := 9, ground := Ground.phase }, { on := 10, ground := Ground.phase }, { on := 11, ground := Ground.phase }], guard := none }) rfl (fun K hK => ?_) AllReadyH.nil
              go_simp
              refine hK.out _ _ ?_ (fun hHeld => ?_)
              · rw [hS10]; exact ⟨MD.out.kb.cells6, MD.out.eb.cells⟩
              clear hK K
              (try simp only [Act.put, List.setIfInBounds_toArray, List.set_cons_zero, List.set_cons_succ])
              refine wpAnyH_done (by kernel_rfl) ?_ _
              go_wp2_with fail
              go_meet
              exact ⟨_, _, MD.out⟩
            · refine AllReadyH.cons (o := { dst := some 48, op := Op.call { callee := Callee.value (Operand.func 92), args := #[Operand.tmp 47], argTypes := #[24] }, type := 3, pos := "intern.go:104", after := #[{ on := 7, ground := Ground.data }], guard := none }) rfl (fun K hK => ?_) AllReadyH.nil
              go_simp
              refine (size_small t At ct _ (by exact IsT.keep TK.b0 (Nat.le_trans TK.htl TK.aft.kp.size) t HT.out) hsm).mono ?_
              rintro e w5 ⟨rfl, hb5⟩
              replace TK := TK.keep hb5
              have q3 := TK.aft.tab.cells.2.2
              clear hb5
              (try go_wp2_with fail)
              refine hK.out _ _ ?_ (fun hHeld => ?_)
              · rw [hS10]; exact ⟨TK.kb.cells6, TK.eb.cells⟩
              clear hK K
              (try simp only [Act.put, List.setIfInBounds_toArray, List.set_cons_zero, List.set_cons_succ])
              refine wpAnyH_take (i := 9) (oi := { dst := some 49, op := Op.build 116 #[(0, Operand.tmp 45), (1, Operand.tmp 46), (2, Operand.tmp 48)], type := 116, pos := "intern.go:104", after := #[{ on := 5, ground := Ground.data }, { on := 6, ground := Ground.data }, { on := 8, ground := Ground.data }], guard := none }) (v := ?_) rfl (by kernel_rfl) (by kernel_rfl) (by kernel_rfl) (fun _ _ _ h => h) (Or.inl ⟨by rfl, ?_⟩) hHeld ?_
              rotate_left
              · intro w hSw; rw [hS10] at hSw; (try dsimp only at hSw); go_simp; (try with_reducible rfl)
              (try simp only [Act.put, List.setIfInBounds_toArray, List.set_cons_zero, List.set_cons_succ])
              refine wpAnyH_ready (rs := [4, 10]) (by kernel_rfl) (by simp) ?_
              refine AllReadyH.cons (o := { dst := some 44, op := Op.load 73 (Operand.tmp 43), type := 73, pos := "intern.go:104", after := #[{ on := 3, ground := Ground.data }], guard := none }) rfl (fun K hK => ?_) ?_
              · go_simp
                refine hK.out _ _ ?_ (fun hHeld => ?_)
                · rw [hS10]; exact ⟨TK.kb.cells6, TK.eb.cells⟩
                clear hK K
                (try simp only [Act.put, List.setIfInBounds_toArray, List.set_cons_zero, List.set_cons_succ])
                refine wpAnyH_ready (rs := [10]) (by kernel_rfl) (by simp) ?_
                refine AllReadyH.cons (o := { dst := some 50, op := Op.buildSlice 73 1 #[(0, Operand.tmp 49)], type := 73, pos := "intern.go:104", after := #[{ on := 9, ground := Ground.data }], guard := none }) rfl (fun K hK => ?_) AllReadyH.nil
                go_simp
                refine hK.out _ _ ?_ (fun hHeld => ?_)
                · rw [hS10]; exact ⟨(TK.keep (below_al _ _)).kb.cells6, (TK.keep (below_al _ _)).eb.cells⟩
                clear hK K
                (try simp only [Act.put, List.setIfInBounds_toArray, List.set_cons_zero, List.set_cons_succ])
                refine wpAnyH_ready (rs := [11]) (by kernel_rfl) (by simp) ?_
                refine AllReadyH.cons (o := { dst := some 51, op := Op.call { callee := Callee.builtin Builtin.append, args := #[Operand.tmp 44, Operand.tmp 50], argTypes := #[73, 73] }, type := 73, pos := "intern.go:104", after := #[{ on := 4, ground := Ground.data }, { on := 10, ground := Ground.data }, { on := 8, ground := Ground.chain }], guard := none }) rfl (fun K hK => ?_) AllReadyH.nil
                refine step_append_lies _ rfl _ _ _ rfl lo 116 i0 _ 8 64 sliceEn HI.out.1 HI.out.2.1 HI.out.2.2.1 HI.out.2.2.2 (by rfl) (by omega) (.slice A2 L1.length c2) L1.length (rowEn L1 L1) (by rfl) (by exact (TK.keep (below_al _ _)).aft.tab.own) ⟨w5.heap.size, 0, none⟩ 1 1 [.int .i64 t.k, .int .i64 t.i, .int .i64 p0, .int .i64 p1, .int .i64 p2, .int .i64 p3, .int .u64 (fr : Int), .int .i64 (t.sz : Int)] (by rfl) (by rfl) (by exact World.news_of_block (heap_alloc_last w5 _)) (by simp [Value.oneCell']) (by omega) (by unfold maxLen; omega) (by omega) (by have h1 := TK.aft.tab.lt P (.inl rfl); simp; omega) (w5.heap.size + 1) (by simp) ?_
                intro g4 cap4 w6 hown6 hgrow6 hat6 hlt6
                have K4 := Lib.hid ((TK.keep (below_al _ _)).after hgrow6).2
                have cP := ((TK.keep (below_al _ _)).after hgrow6).1.1
                have fP := ((TK.keep (below_al _ _)).after hgrow6).1.2
                have MD := Lib.hid ((TK.keep (below_al _ _)).mid hlo g4 cap4 (w5.heap.size + 1) (by have := TK.aft.kp.size; omega) (by rw [ROW.out]; exact hown6) hgrow6 hat6)
                clear hown6 hgrow6 hat6
                refine hK.out _ _ ?_ (fun hHeld => ?_)
                · rw [hS10]; exact ⟨K4.out.1.cells6, K4.out.2.cells⟩
                clear hK K
                (try simp only [Act.put, List.setIfInBounds_toArray, List.set_cons_zero, List.set_cons_succ])
                refine wpAnyH_take (i := 12) (oi := { dst := some 52, op := Op.nilCheck (Operand.tmp 40), type := 0, pos := "intern.go:104", after := #[{ on := 0, ground := Ground.data }, { on := 0, ground := Ground.phase }, { on := 1, ground := Ground.phase }, { on := 2, ground := Ground.phase }, { on := 3, ground := Ground.phase }, { on := 4, ground := Ground.phase }, { on := 5, ground := Ground.phase }, { on := 6, ground := Ground.phase }, { on := 7, ground := Ground.phase }, { on := 8, ground := Ground.phase }, { on := 9, ground := Ground.phase }, { on := 10, ground := Ground.phase }, { on := 11, ground := Ground.phase }], guard := none }) (v := ?_) rfl (by kernel_rfl) (by kernel_rfl) (by kernel_rfl) (fun _ _ _ h => h) (Or.inl ⟨by rfl, ?_⟩) hHeld ?_
                rotate_left
                · intro w hSw; rw [hS10] at hSw; (try dsimp only at hSw); go_simp; (try with_reducible rfl)
                (try simp only [Act.put, List.setIfInBounds_toArray, List.set_cons_zero, List.set_cons_succ])
                refine wpAnyH_take (i := 13) (oi := { dst := some 53, op := Op.fieldAddr 75 (Operand.tmp 52) 2, type := 0, pos := "intern.go:104", after := #[{ on := 12, ground := Ground.data }, { on := 0, ground := Ground.phase }, { on := 1, ground := Ground.phase }, { on := 2, ground := Ground.phase }, { on := 3, ground := Ground.phase }, { on := 4, ground := Ground.phase }, { on := 5, ground := Ground.phase }, { on := 6, ground := Ground.phase }, { on := 7, ground := Ground.phase }, { on := 8, ground := Ground.phase }, { on := 9, ground := Ground.phase }, { on := 10, ground := Ground.phase }, { on := 11, ground := Ground.phase }], guard := none }) (v := ?_) rfl (by kernel_rfl) (by kernel_rfl) (by kernel_rfl) (fun _ _ _ h => h) (Or.inl ⟨by rfl, ?_⟩) hHeld ?_
                rotate_left
                · intro w hSw; rw [hS10] at hSw; (try dsimp only at hSw); go_simp; (try with_reducible rfl)
                (try simp only [Act.put, List.setIfInBounds_toArray, List.set_cons_zero, List.set_cons_succ])
                refine wpAnyH_ready (rs := [14]) (by kernel_rfl) (by simp) ?_
                refine AllReadyH.cons (o := { dst := none, op := Op.store 73 (Operand.tmp 53) (Operand.tmp 51), type := 0, pos := "intern.go:104", after := #[{ on := 13, ground := Ground.data }, { on := 11, ground := Ground.data }, { on := 11, ground := Ground.chain }, { on := 0, ground := Ground.phase }, { on := 1, ground := Ground.phase }, { on := 2, ground := Ground.phase }, { on := 3, ground := Ground.phase }, { on := 4, ground := Ground.phase }, { on := 5, ground := Ground.phase }, { on := 6, ground := Ground.phase }, { on := 7, ground := Ground.phase }, { on := 8, ground := Ground.phase }, { on := 9, ground := Ground.phase }, { on := 10, ground := Ground.phase }, { on := 11, ground := Ground.phase }], guard := none }) rfl (fun K hK => ?_) AllReadyH.nil
                go_simp
                refine hK.out _ _ ?_ (fun hHeld => ?_)
                · rw [hS10]; exact ⟨MD.out.kb.cells6, MD.out.eb.cells⟩
                clear hK K
                (try simp only [Act.put, List.setIfInBounds_toArray, List.set_cons_zero, List.set_cons_succ])
                refine wpAnyH_done (by kernel_rfl) ?_ _
                go_wp2_with fail
                go_meet
                exact ⟨_, _, MD.out⟩
              · refine AllReadyH.cons (o := { dst := some 50, op := Op.buildSlice 73 1 #[(0, Operand.tmp 49)], type := 73, pos := "intern.go:104", after := #[{ on := 9, ground := Ground.data }], guard := none }) rfl (fun K hK => ?_) AllReadyH.nil
                go_simp
                refine hK.out _ _ ?_ (fun hHeld => ?_)
                · rw [hS10]; exact ⟨(TK.keep (below_al _ _)).kb.cells6, (TK.keep (below_al _ _)).eb.cells⟩
                clear hK K
                (try simp only [Act.put, List.setIfInBounds_toArray, List.set_cons_zero, List.set_cons_succ])
                have q4 := (TK.keep (below_al w5 (.cells #[.int .i64 t.k, .int .i64 t.i, .int .i64 p0, .int .i64 p1, .int .i64 p2, .int .i64 p3, .int .u64 (fr : Int), .int .i64 (t.sz : Int)] 116))).aft.tab.cells.2.2
                refine wpAnyH_ready (rs := [4]) (by kernel_rfl) (by simp) ?_
                refine AllReadyH.cons (o := { dst := some 44, op := Op.load 73 (Operand.tmp 43), type := 73, pos := "intern.go:104", after := #[{ on := 3, ground := Ground.data }], guard := none }) rfl (fun K hK => ?_) AllReadyH.nil
                go_simp
                refine hK.out _ _ ?_ (fun hHeld => ?_)
                · rw [hS10]; exact ⟨(TK.keep (below_al _ _)).kb.cells6, (TK.keep (below_al _ _)).eb.cells⟩
                clear hK K
                (try simp only [Act.put, List.setIfInBounds_toArray, List.set_cons_zero, List.set_cons_succ])
                refine wpAnyH_ready (rs := [11]) (by kernel_rfl) (by simp) ?_
                refine AllReadyH.cons (o := { dst := some 51, op := Op.call { callee := Callee.builtin Builtin.append, args := #[Operand.tmp 44, Operand.tmp 50], argTypes := #[73, 73] }, type := 73, pos := "intern.go:104", after := #[{ on := 4, ground := Ground.data }, { on := 10, ground := Ground.data }, { on := 8, ground := Ground.chain }], guard := none }) rfl (fun K hK => ?_) AllReadyH.nil
                refine step_append_lies _ rfl _ _ _ rfl lo 116 i0 _ 8 64 sliceEn HI.out.1 HI.out.2.1 HI.out.2.2.1 HI.out.2.2.2 (by rfl) (by omega) (.slice A2 L1.length c2) L1.length (rowEn L1 L1) (by rfl) (by exact (TK.keep (below_al _ _)).aft.tab.own) ⟨w5.heap.size, 0, none⟩ 1 1 [.int .i64 t.k, .int .i64 t.i, .int .i64 p0, .int .i64 p1, .int .i64 p2, .int .i64 p3, .int .u64 (fr : Int), .int .i64 (t.sz : Int)] (by rfl) (by rfl) (by exact World.news_of_block (heap_alloc_last w5 _)) (by simp [Value.oneCell']) (by omega) (by unfold maxLen; omega) (by omega) (by have h1 := TK.aft.tab.lt P (.inl rfl); simp; omega) (w5.heap.size + 1) (by simp) ?_
                intro g4 cap4 w6 hown6 hgrow6 hat6 hlt6
                have K4 := Lib.hid ((TK.keep (below_al _ _)).after hgrow6).2
                have cP := ((TK.keep (below_al _ _)).after hgrow6).1.1
                have fP := ((TK.keep (below_al _ _)).after hgrow6).1.2
                have MD := Lib.hid ((TK.keep (below_al _ _)).mid hlo g4 cap4 (w5.heap.size + 1) (by have := TK.aft.kp.size; omega) (by rw [ROW.out]; exact hown6) hgrow6 hat6)
                clear hown6 hgrow6 hat6
                refine hK.out _ _ ?_ (fun hHeld => ?_)
                · rw [hS10]; exact ⟨K4.out.1.cells6, K4.out.2.cells⟩
                clear hK K
                (try simp only [Act.put, List.setIfInBounds_toArray, List.set_cons_zero, List.set_cons_succ])
                refine wpAnyH_take (i := 12) (oi := { dst := some 52, op := Op.nilCheck (Operand.tmp 40), type := 0, pos := "intern.go:104", after := #[{ on := 0, ground := Ground.data }, { on := 0, ground := Ground.phase }, { on := 1, ground := Ground.phase }, { on := 2, ground := Ground.phase }, { on := 3, ground := Ground.phase }, { on := 4, ground := Ground.phase }, { on := 5, ground := Ground.phase }, { on := 6, ground := Ground.phase }, { on := 7, ground := Ground.phase }, { on := 8, ground := Ground.phase }, { on := 9, ground := Ground.phase }, { on := 10, ground := Ground.phase }, { on := 11, ground := Ground.phase }], guard := none }) (v := ?_) rfl (by kernel_rfl) (by kernel_rfl) (by kernel_rfl) (fun _ _ _ h => h) (Or.inl ⟨by rfl, ?_⟩) hHeld ?_
                rotate_left
                · intro w hSw; rw [hS10] at hSw; (try dsimp only at hSw); go_simp; (try with_reducible rfl)
                (try simp only [Act.put, List.setIfInBounds_toArray, List.set_cons_zero, List.set_cons_succ])
                refine wpAnyH_take (i := 13) (oi := { dst := some 53, op := Op.fieldAddr 75 (Operand.tmp 52) 2, type := 0, pos := "intern.go:104", after := #[{ on := 12, ground := Ground.data }, { on := 0, ground := Ground.phase }, { on := 1, ground := Ground.phase }, { on := 2, ground := Ground.phase }, { on := 3, ground := Ground.phase }, { on := 4, ground := Ground.phase }, { on := 5, ground := Ground.phase }, { on := 6, ground := Ground.phase }, { on := 7, ground := Ground.phase }, { on := 8, ground := Ground.phase }, { on := 9, ground := Ground.phase }, { on := 10, ground := Ground.phase }, { on := 11, ground := Ground.phase }], guard := none }) (v := ?_) rfl (by kernel_rfl) (by kernel_rfl) (by kernel_rfl) (fun _ _ _ h => h) (Or.inl ⟨by rfl, ?_⟩) hHeld ?_
                rotate_left
                · intro w hSw; rw [hS10] at hSw; (try dsimp only at hSw); go_simp; (try with_reducible rfl)
                (try simp only [Act.put, List.setIfInBounds_toArray, List.set_cons_zero, List.set_cons_succ])
                refine wpAnyH_ready (rs := [14]) (by kernel_rfl) (by simp) ?_
                refine AllReadyH.cons (o := { dst := none, op := Op.store 73 (Operand.tmp 53) (Operand.tmp 51), type := 0, pos := "intern.go:104", after := #[{ on := 13, ground := Ground.data }, { on := 11, ground := Ground.data }, { on := 11, ground := Ground.chain }, { on := 0, ground := Ground.phase }, { on := 1, ground := Ground.phase }, { on := 2, ground := Ground.phase }, { on := 3, ground := Ground.phase }, { on := 4, ground := Ground.phase }, { on := 5, ground := Ground.phase }, { on := 6, ground := Ground.phase }, { on := 7, ground := Ground.phase }, { on := 8, ground := Ground.phase }, { on := 9, ground := Ground.phase }, { on := 10, ground := Ground.phase }, { on := 11, ground := Ground.phase }], guard := none }) rfl (fun K hK => ?_) AllReadyH.nil
                go_simp
                refine hK.out _ _ ?_ (fun hHeld => ?_)
                · rw [hS10]; exact ⟨MD.out.kb.cells6, MD.out.eb.cells⟩
                clear hK K
                (try simp only [Act.put, List.setIfInBounds_toArray, List.set_cons_zero, List.set_cons_succ])
                refine wpAnyH_done (by kernel_rfl) ?_ _
                go_wp2_with fail
                go_meet
                exact ⟨_, _, MD.out⟩
          case rest =>
            obtain ⟨A5, c5, hM⟩ := hcut
            have MD := Lib.hid hM
            clear hM R4
            have MDD := Lib.hid (MD.out.keep ((Below.refl wc.heap.size wc).drew) htl)
            have hlt1 : L1.length < room := by have := hfull.out; omega
            obtain ⟨f, hfm, hmo⟩ := MDD.out.mp
            obtain ⟨w7, hrun, hmp7, hg7⟩ := hfm.put (by unfold maxLen; omega) GK.out (by rw [NU.out f hmo]; exact h0.out) (L1.length + 1) (by omega) (WalkArith.wf_i64 (by omega))
            have G7 := Lib.hid (MDD.out.grown hg7)
            have AF7 := Lib.hid (MDD.out.done hlo F4.out RT.out NIN.out HK.out hlt1 hrm hloP hloM f hmo (by rw [HND.out]; exact hmp7) hg7)
            obtain ⟨n1, hn1⟩ : ∃ n1, n1 = L1.length + 1 := ⟨_, rfl⟩
            have C2 := Lib.hid MDD.out.cells
            rw [← hn1] at hrun C2 G7
            have hrun' : (Instr.mapUpdate 72 (.map (some M)) (.agg #[.int .i64 t.k, .int .i64 t.i, .int .i64 p0, .int .i64 p1, .int .i64 p2, .int .i64 p3]) (.int .i64 (n1 : Int))).run Try.prog wc.drew = .ok () w7 := hrun
            have HN1 := Lib.hid hn1
            clear hrun hfm hmo hmp7 hg7 hn1
            go_wp2_with fail
            go_region_held3 (fun w' => (w'.cell? ⟨P, 1, none⟩ = some (.map (some M)) ∧ w'.cell? ⟨P, 2, none⟩ = some (.slice A5 n1 c5)) ∧ (w'.cell? ⟨w1.heap.size, 0, none⟩ = some (.int .i64 t.k) ∧ w'.cell? ⟨w1.heap.size, 1, none⟩ = some (.int .i64 t.i) ∧ w'.cell? ⟨w1.heap.size, 2, none⟩ = some (.int .i64 p0) ∧ w'.cell? ⟨w1.heap.size, 3, none⟩ = some (.int .i64 p1) ∧ w'.cell? ⟨w1.heap.size, 4, none⟩ = some (.int .i64 p2) ∧ w'.cell? ⟨w1.heap.size, 5, none⟩ = some (.int .i64 p3)))
              (first | exact ⟨C2.out, MDD.out.kb.cells6⟩ | exact ⟨G7.out.1, G7.out.2.cells6⟩)
              (first | (go_at_call 23; refine (len_cell _ P A5 n1 c5 (by exact C2.out.2)).mono ?_; rintro e w9 ⟨rfl, rfl⟩))
            have c7 := G7.out.1.2
            go_wp2_with fail
            refine (len_cell _ P A5 n1 c5 (by exact c7)).mono ?_
            rintro e w9 ⟨rfl, rfl⟩
            go_wp2_with fail
            go_ret
            exact ⟨by simp only [addN]; rw [NUM.out, HN1.out]; rfl, A5, c5, by simp only [addX]; rw [NUM.out]; exact AF7.out⟩
      · have hne : ((num L1 t : Int) != 0) = true := by rw [bne_iff_ne]; omega
        have NUM := Lib.hid (show addT room t L = (L1, num L1 t) by rw [EQ.out]; simp [h0])
        replace h0 := Lib.hid h0
        go_wp2_with fail
        go_ret
        exact ⟨by simp only [addN]; rw [NUM.out]; rfl, A2, c2, by simp only [addX]; rw [NUM.out]; exact RD.out.aft⟩
end Go.Proofs.Ytmmdhlemkcddmaa
