/- RE5, RE4, RM, RQ, one behind the other. -/
import Derived.Test.YtgnfbhemkombaaaGreatRZ1
import Derived.Test.YtgnfbhemkombaaaGreatSX
import Derived.Test.YtgnfbhemkombaaaGreatSZ
namespace Go.Proofs.YtgnfbhemkombaaaGreat
open Go.RowKit
set_option linter.unusedVariables false
set_option linter.unusedSimpArgs false
set_option maxHeartbeats 40000000 in
set_option maxRecDepth 100000 in
theorem split5_any (t : Tr) (A : Option Addr) (c : Nat) (w : World) (ht : IsT w w.heap.size t A c) (hr : rightN t = 0) :
    Calls Tryz.prog 45 #[.agg #[.int .i64 t.k, .int .i64 t.i, .slice A t.ks.length c]] w (SplitP w (splitV 5 t)) := by
  obtain ⟨W0, hW0⟩ : ∃ W0, W0 = (w.alloc (.cells #[.int .i64 t.k, .int .i64 t.i, .slice A t.ks.length c] 24)).alloc (.cells #[.slice none 0 0, .int .i64 0] 32) := ⟨_, rfl⟩
  have S0 := Lib.hid (show SB w W0 t A c by rw [hW0]; exact SB.start w t A c)
  have HZ := Lib.hid (show W0.heap.size = w.heap.size + 2 by rw [hW0]; simp)
  have HT := Lib.hid ht
  have HR := Lib.hid hr
  have HW := Lib.hid hW0
  clear ht hr hW0
  go_enter Tryz.func45, Tryz.ntmps45
  go_upto_region 1 with fail
  rw [← HW.out]
  have SS := Lib.hid (fun (W : World) (h : Below W0.heap.size W0 W) => (S0.out.keep h).xb.cells)
  have CLO := Lib.hid (fun (W : World) (h : Below W0.heap.size W0 W) (p : Nat) (hp : PathsBox W 0 W.heap.size p [[0, 0, 0], [0, 0, 1]]) => (partsAt1_any t A c p 0 [[0, 0, 0], [0, 0, 1]] W (HT.out.keep (S0.out.keep h).bel (S0.out.keep h).bel.size) HR.out hp (by decide) (fun j hj => by
    match j, hj with
    | 0, _ => simp
    | 1, _ => simp) : Calls Tryz.prog 77 #[.agg #[.int .i64 t.k, .int .i64 t.i, .slice A t.ks.length c], .pointer (some ⟨p, 0, none⟩)] W (PartsP W ((partsAtT t [[0, 0, 0], [0, 0, 1]]).map fun l => (l, 0)))))
  have SV := Lib.hid (show splitV 5 t = (match partsAtT t [[0, 0, 0], [0, 0, 1]] with | none => none | some l => some (l, (t.ks.headD zeroT).i)) from rfl)
  cases hp : partsAtT t [[0, 0, 0], [0, 0, 1]] with
  | none =>
    rw [hp] at CLO SV
    have R := Lib.hid (show splitV 5 t = none from SV.out)
    clear SV
    go_cut [4, 5] (fun v f wc => ∃ nv, v = .pointer (some ⟨nv, 0, none⟩) ∧ f = .bool false ∧ SB w wc t A c)
    case first =>
      have BB : Trg W0 W0 [] := Trg.nil _
      go_region_held3 (fun w' => w'.cell? ⟨w.heap.size, 0, none⟩ = some (.int .i64 t.k) ∧ w'.cell? ⟨w.heap.size, 1, none⟩ = some (.int .i64 t.i) ∧ w'.cell? ⟨w.heap.size, 2, none⟩ = some (.slice A t.ks.length c))
        (first | (with_reducible exact SS.out _ BB.bel) | (with_reducible exact SS.out _ BB.dr.bel) | (with_reducible exact SS.out _ (BB.al _).bel) | (with_reducible exact SS.out _ (BB.al _).dr.bel) | (with_reducible exact SS.out _ ((BB.al _).al _).bel) | (with_reducible exact SS.out _ ((BB.al _).al _).dr.bel) | (with_reducible exact SS.out _ (((BB.al _).al _).al _).bel) | (with_reducible exact SS.out _ (((BB.al _).al _).al _).dr.bel) | (with_reducible exact SS.out _ ((((BB.al _).al _).al _).al _).bel) | (with_reducible exact SS.out _ ((((BB.al _).al _).al _).al _).dr.bel) | (with_reducible exact SS.out _ ((BB.bel.setCell (p := ⟨_, 0, none⟩) hnb _).setCell (p := ⟨_, 1, none⟩) hnb _)) | exact SS.out _ ((BB.bel.setCell (p := ⟨_, 0, none⟩) hnb _).setCell (p := ⟨_, 1, none⟩) hnb _))
        (first
          | (go_at_call 77; (first | (have PB2 := PB.out.keep (alB w6 (.cells #[.slice none 0 0, .int .i64 0] 32)) (alB w6 (.cells #[.slice none 0 0, .int .i64 0] 32)).size; ((with_reducible refine (CLO.out _ ((BB.al (.cells #[.slice none 0 0, .int .i64 0] 32))).bel p PB2).mono ?_); rintro e w7 ⟨hb7, rfl⟩; have hlo := ((BB.al (.cells #[.slice none 0 0, .int .i64 0] 32))).bel.size; have hs7a := hb7.size; replace BB := ((BB.al (.cells #[.slice none 0 0, .int .i64 0] 32))).call hb7; have NB := BB.boxAt (j := 0) rfl; have hnb : W0.heap.size ≤ w6.heap.size := hs6; clear PB2)) | ((with_reducible refine (CLO.out _ (BB).bel p PB.out).mono ?_); rintro e w7 ⟨hb7, rfl⟩; have hlo := (BB).bel.size; have hs7a := hb7.size; replace BB := (BB).call hb7; (try replace NB := NB.keep hb7 NB.lt); skip)); (try (obtain ⟨n0, n1⟩ := NB.cells; have nf0 := NB.frozen 0; have nf1 := NB.frozen 1; have nlt := NB.lt)); clear hb7)
          | (go_at_call 37; (first | ((with_reducible refine (partsAt_laid ((((BB.al _).al _).al _).dr) (W0.heap.size + 1 + 1) (W0.heap.size) (W0.heap.size + 1) [0, 0, 0] [0, 0, 1] ?_ ?_ ?_).mono ?_); (focus (simp [drew_sz]; done)); (focus (simp [drew_sz]; done)); (focus (simp [drew_sz]; done)); rintro e w6 ⟨p, rfl, hPB, hb6⟩; replace BB := (((((BB.al _).al _).al _).dr)).call hb6; have PB := Lib.hid hPB; have hs6 := BB.bel.size; clear hPB hb6) | ((with_reducible refine (partsAt_laid (((((BB.al _).al _).al _).al _).dr) (W0.heap.size + 1 + 1 + 1) (W0.heap.size + 1) (W0.heap.size + 1 + 1) [0, 0, 0] [0, 0, 1] ?_ ?_ ?_).mono ?_); (focus (simp [drew_sz]; done)); (focus (simp [drew_sz]; done)); (focus (simp [drew_sz]; done)); rintro e w6 ⟨p, rfl, hPB, hb6⟩; replace BB := ((((((BB.al _).al _).al _).al _).dr)).call hb6; have NB := BB.boxAt (j := 3) rfl; (try simp only [World.size_alloc] at NB); have nl6 := NB.lt; have hnb : W0.heap.size ≤ W0.heap.size := (by omega); have PB := Lib.hid hPB; have hs6 := BB.bel.size; clear hPB hb6) | ((with_reducible refine (partsAt_laid (((((BB.al _).al _).al _).al _).dr) (W0.heap.size + 1 + 1 + 1) (W0.heap.size) (W0.heap.size + 1 + 1) [0, 0, 0] [0, 0, 1] ?_ ?_ ?_).mono ?_); (focus (simp [drew_sz]; done)); (focus (simp [drew_sz]; done)); (focus (simp [drew_sz]; done)); rintro e w6 ⟨p, rfl, hPB, hb6⟩; replace BB := ((((((BB.al _).al _).al _).al _).dr)).call hb6; have NB := BB.boxAt (j := 2) rfl; (try simp only [World.size_alloc] at NB); have nl6 := NB.lt; have hnb : W0.heap.size ≤ W0.heap.size + 1 := (by omega); have PB := Lib.hid hPB; have hs6 := BB.bel.size; clear hPB hb6) | ((with_reducible refine (partsAt_laid (((((BB.al _).al _).al _).al _).dr) (W0.heap.size + 1 + 1 + 1) (W0.heap.size) (W0.heap.size + 1) [0, 0, 0] [0, 0, 1] ?_ ?_ ?_).mono ?_); (focus (simp [drew_sz]; done)); (focus (simp [drew_sz]; done)); (focus (simp [drew_sz]; done)); rintro e w6 ⟨p, rfl, hPB, hb6⟩; replace BB := ((((((BB.al _).al _).al _).al _).dr)).call hb6; have NB := BB.boxAt (j := 1) rfl; (try simp only [World.size_alloc] at NB); have nl6 := NB.lt; have hnb : W0.heap.size ≤ W0.heap.size + 1 + 1 := (by omega); have PB := Lib.hid hPB; have hs6 := BB.bel.size; clear hPB hb6) | ((with_reducible refine (partsAt_laid (((((BB.al _).al _).al _).al _).dr) (W0.heap.size + 1 + 1) (W0.heap.size) (W0.heap.size + 1) [0, 0, 0] [0, 0, 1] ?_ ?_ ?_).mono ?_); (focus (simp [drew_sz]; done)); (focus (simp [drew_sz]; done)); (focus (simp [drew_sz]; done)); rintro e w6 ⟨p, rfl, hPB, hb6⟩; replace BB := ((((((BB.al _).al _).al _).al _).dr)).call hb6; have NB := BB.boxAt (j := 0) rfl; (try simp only [World.size_alloc] at NB); have nl6 := NB.lt; have hnb : W0.heap.size ≤ W0.heap.size + 1 + 1 + 1 := (by omega); have PB := Lib.hid hPB; have hs6 := BB.bel.size; clear hPB hb6) | ((with_reducible refine (partsAt_laid ((((BB.al _).al _).al _).dr) (W0.heap.size + 1 + 1) (W0.heap.size + 1) (W0.heap.size) [0, 0, 0] [0, 0, 1] ?_ ?_ ?_).mono ?_); (focus (simp [drew_sz]; done)); (focus (simp [drew_sz]; done)); (focus (simp [drew_sz]; done)); rintro e w6 ⟨p, rfl, hPB, hb6⟩; replace BB := (((((BB.al _).al _).al _).dr)).call hb6; have PB := Lib.hid hPB; have hs6 := BB.bel.size; clear hPB hb6) | ((with_reducible refine (partsAt_laid (((((BB.al _).al _).al _).al _).dr) (W0.heap.size + 1 + 1 + 1) (W0.heap.size + 1 + 1) (W0.heap.size + 1) [0, 0, 0] [0, 0, 1] ?_ ?_ ?_).mono ?_); (focus (simp [drew_sz]; done)); (focus (simp [drew_sz]; done)); (focus (simp [drew_sz]; done)); rintro e w6 ⟨p, rfl, hPB, hb6⟩; replace BB := ((((((BB.al _).al _).al _).al _).dr)).call hb6; have NB := BB.boxAt (j := 3) rfl; (try simp only [World.size_alloc] at NB); have nl6 := NB.lt; have hnb : W0.heap.size ≤ W0.heap.size := (by omega); have PB := Lib.hid hPB; have hs6 := BB.bel.size; clear hPB hb6) | ((with_reducible refine (partsAt_laid (((((BB.al _).al _).al _).al _).dr) (W0.heap.size + 1 + 1 + 1) (W0.heap.size + 1 + 1) (W0.heap.size) [0, 0, 0] [0, 0, 1] ?_ ?_ ?_).mono ?_); (focus (simp [drew_sz]; done)); (focus (simp [drew_sz]; done)); (focus (simp [drew_sz]; done)); rintro e w6 ⟨p, rfl, hPB, hb6⟩; replace BB := ((((((BB.al _).al _).al _).al _).dr)).call hb6; have NB := BB.boxAt (j := 2) rfl; (try simp only [World.size_alloc] at NB); have nl6 := NB.lt; have hnb : W0.heap.size ≤ W0.heap.size + 1 := (by omega); have PB := Lib.hid hPB; have hs6 := BB.bel.size; clear hPB hb6) | ((with_reducible refine (partsAt_laid (((((BB.al _).al _).al _).al _).dr) (W0.heap.size + 1 + 1 + 1) (W0.heap.size + 1) (W0.heap.size) [0, 0, 0] [0, 0, 1] ?_ ?_ ?_).mono ?_); (focus (simp [drew_sz]; done)); (focus (simp [drew_sz]; done)); (focus (simp [drew_sz]; done)); rintro e w6 ⟨p, rfl, hPB, hb6⟩; replace BB := ((((((BB.al _).al _).al _).al _).dr)).call hb6; have NB := BB.boxAt (j := 1) rfl; (try simp only [World.size_alloc] at NB); have nl6 := NB.lt; have hnb : W0.heap.size ≤ W0.heap.size + 1 + 1 := (by omega); have PB := Lib.hid hPB; have hs6 := BB.bel.size; clear hPB hb6) | ((with_reducible refine (partsAt_laid (((((BB.al _).al _).al _).al _).dr) (W0.heap.size + 1 + 1) (W0.heap.size + 1) (W0.heap.size) [0, 0, 0] [0, 0, 1] ?_ ?_ ?_).mono ?_); (focus (simp [drew_sz]; done)); (focus (simp [drew_sz]; done)); (focus (simp [drew_sz]; done)); rintro e w6 ⟨p, rfl, hPB, hb6⟩; replace BB := ((((((BB.al _).al _).al _).al _).dr)).call hb6; have NB := BB.boxAt (j := 0) rfl; (try simp only [World.size_alloc] at NB); have nl6 := NB.lt; have hnb : W0.heap.size ≤ W0.heap.size + 1 + 1 + 1 := (by omega); have PB := Lib.hid hPB; have hs6 := BB.bel.size; clear hPB hb6))))
      all_goals go_wp2_with fail
      all_goals go_meet
      all_goals first
        | exact ⟨_, rfl, rfl, S0.out.keep (bl_trans BB.bel (alB _ _))⟩
        | exact ⟨_, rfl, rfl, S0.out.keep ((BB.bel.setCell (p := ⟨_, 0, none⟩) hnb _).setCell (p := ⟨_, 1, none⟩) hnb _)⟩
    case rest =>
      obtain ⟨nv, rfl, rfl, hS⟩ := hcut
      obtain ⟨r0, r1⟩ := hS.rb.cells
      have f0 := hS.rb.frozen 0
      have f1 := hS.rb.frozen 1
      have S1 := Lib.hid hS
      clear hS
      go_wp2_with fail
      obtain ⟨z0, z1⟩ := ((S1.out.rb.set0 none 0 0).set1 0).cells
      refine bodyPost_ret (v := .tuple #[.agg #[.slice none 0 0, .int .i64 0], .bool false]) (by simp [results, Tryz.results45, go_sem, z0, z1]) rfl ?_
      rw [R.out]
      exact ⟨(S1.out.bel.setCell (p := ⟨w.heap.size + 1, 0, none⟩) (Nat.le_succ _) _).setCell (p := ⟨w.heap.size + 1, 1, none⟩) (Nat.le_succ _) _, rfl⟩
  | some l =>
    have PR := Lib.hid (partsAtT_right HR.out hp)
    have PN := Lib.hid (partsAtT_len hp)
    have PE := Lib.hid hp
    rw [hp] at CLO SV
    clear hp
    go_cut [4, 5] (fun v f wc => ∃ nv lo hi A7 c7, v = .pointer (some ⟨nv, 0, none⟩) ∧ f = .bool true ∧ SB w wc t A c ∧ PL w wc nv lo hi l A7 c7 0)
    case first =>
      have BB : Trg W0 W0 [] := Trg.nil _
      go_region_held3 (fun w' => w'.cell? ⟨w.heap.size, 0, none⟩ = some (.int .i64 t.k) ∧ w'.cell? ⟨w.heap.size, 1, none⟩ = some (.int .i64 t.i) ∧ w'.cell? ⟨w.heap.size, 2, none⟩ = some (.slice A t.ks.length c))
        (first | (with_reducible exact SS.out _ BB.bel) | (with_reducible exact SS.out _ BB.dr.bel) | (with_reducible exact SS.out _ (BB.al _).bel) | (with_reducible exact SS.out _ (BB.al _).dr.bel) | (with_reducible exact SS.out _ ((BB.al _).al _).bel) | (with_reducible exact SS.out _ ((BB.al _).al _).dr.bel) | (with_reducible exact SS.out _ (((BB.al _).al _).al _).bel) | (with_reducible exact SS.out _ (((BB.al _).al _).al _).dr.bel) | (with_reducible exact SS.out _ ((((BB.al _).al _).al _).al _).bel) | (with_reducible exact SS.out _ ((((BB.al _).al _).al _).al _).dr.bel) | (with_reducible exact SS.out _ ((BB.bel.setCell (p := ⟨_, 0, none⟩) hnb _).setCell (p := ⟨_, 1, none⟩) hnb _)) | exact SS.out _ ((BB.bel.setCell (p := ⟨_, 0, none⟩) hnb _).setCell (p := ⟨_, 1, none⟩) hnb _))
        (first
          | (go_at_call 77; (first | (have PB2 := PB.out.keep (alB w6 (.cells #[.slice none 0 0, .int .i64 0] 32)) (alB w6 (.cells #[.slice none 0 0, .int .i64 0] 32)).size; ((with_reducible refine (CLO.out _ ((BB.al (.cells #[.slice none 0 0, .int .i64 0] 32))).bel p PB2).mono ?_); rintro e w7 ⟨hb7, A7, c7, rfl, ho7⟩; have hlo := ((BB.al (.cells #[.slice none 0 0, .int .i64 0] 32))).bel.size; have hs7a := hb7.size; have HO := Lib.hid ho7; clear ho7; replace BB := ((BB.al (.cells #[.slice none 0 0, .int .i64 0] 32))).call hb7; have NB := BB.boxAt (j := 0) rfl; have hnb : W0.heap.size ≤ w6.heap.size := hs6; clear PB2)) | ((with_reducible refine (CLO.out _ (BB).bel p PB.out).mono ?_); rintro e w7 ⟨hb7, A7, c7, rfl, ho7⟩; have hlo := (BB).bel.size; have hs7a := hb7.size; have HO := Lib.hid ho7; clear ho7; replace BB := (BB).call hb7; (try replace NB := NB.keep hb7 NB.lt); skip)); (try (obtain ⟨n0, n1⟩ := NB.cells; have nf0 := NB.frozen 0; have nf1 := NB.frozen 1; have nlt := NB.lt)); clear hb7)
          | (go_at_call 37; (first | ((with_reducible refine (partsAt_laid ((((BB.al _).al _).al _).dr) (W0.heap.size + 1 + 1) (W0.heap.size) (W0.heap.size + 1) [0, 0, 0] [0, 0, 1] ?_ ?_ ?_).mono ?_); (focus (simp [drew_sz]; done)); (focus (simp [drew_sz]; done)); (focus (simp [drew_sz]; done)); rintro e w6 ⟨p, rfl, hPB, hb6⟩; replace BB := (((((BB.al _).al _).al _).dr)).call hb6; have PB := Lib.hid hPB; have hs6 := BB.bel.size; clear hPB hb6) | ((with_reducible refine (partsAt_laid (((((BB.al _).al _).al _).al _).dr) (W0.heap.size + 1 + 1 + 1) (W0.heap.size + 1) (W0.heap.size + 1 + 1) [0, 0, 0] [0, 0, 1] ?_ ?_ ?_).mono ?_); (focus (simp [drew_sz]; done)); (focus (simp [drew_sz]; done)); (focus (simp [drew_sz]; done)); rintro e w6 ⟨p, rfl, hPB, hb6⟩; replace BB := ((((((BB.al _).al _).al _).al _).dr)).call hb6; have NB := BB.boxAt (j := 3) rfl; (try simp only [World.size_alloc] at NB); have nl6 := NB.lt; have hnb : W0.heap.size ≤ W0.heap.size := (by omega); have PB := Lib.hid hPB; have hs6 := BB.bel.size; clear hPB hb6) | ((with_reducible refine (partsAt_laid (((((BB.al _).al _).al _).al _).dr) (W0.heap.size + 1 + 1 + 1) (W0.heap.size) (W0.heap.size + 1 + 1) [0, 0, 0] [0, 0, 1] ?_ ?_ ?_).mono ?_); (focus (simp [drew_sz]; done)); (focus (simp [drew_sz]; done)); (focus (simp [drew_sz]; done)); rintro e w6 ⟨p, rfl, hPB, hb6⟩; replace BB := ((((((BB.al _).al _).al _).al _).dr)).call hb6; have NB := BB.boxAt (j := 2) rfl; (try simp only [World.size_alloc] at NB); have nl6 := NB.lt; have hnb : W0.heap.size ≤ W0.heap.size + 1 := (by omega); have PB := Lib.hid hPB; have hs6 := BB.bel.size; clear hPB hb6) | ((with_reducible refine (partsAt_laid (((((BB.al _).al _).al _).al _).dr) (W0.heap.size + 1 + 1 + 1) (W0.heap.size) (W0.heap.size + 1) [0, 0, 0] [0, 0, 1] ?_ ?_ ?_).mono ?_); (focus (simp [drew_sz]; done)); (focus (simp [drew_sz]; done)); (focus (simp [drew_sz]; done)); rintro e w6 ⟨p, rfl, hPB, hb6⟩; replace BB := ((((((BB.al _).al _).al _).al _).dr)).call hb6; have NB := BB.boxAt (j := 1) rfl; (try simp only [World.size_alloc] at NB); have nl6 := NB.lt; have hnb : W0.heap.size ≤ W0.heap.size + 1 + 1 := (by omega); have PB := Lib.hid hPB; have hs6 := BB.bel.size; clear hPB hb6) | ((with_reducible refine (partsAt_laid (((((BB.al _).al _).al _).al _).dr) (W0.heap.size + 1 + 1) (W0.heap.size) (W0.heap.size + 1) [0, 0, 0] [0, 0, 1] ?_ ?_ ?_).mono ?_); (focus (simp [drew_sz]; done)); (focus (simp [drew_sz]; done)); (focus (simp [drew_sz]; done)); rintro e w6 ⟨p, rfl, hPB, hb6⟩; replace BB := ((((((BB.al _).al _).al _).al _).dr)).call hb6; have NB := BB.boxAt (j := 0) rfl; (try simp only [World.size_alloc] at NB); have nl6 := NB.lt; have hnb : W0.heap.size ≤ W0.heap.size + 1 + 1 + 1 := (by omega); have PB := Lib.hid hPB; have hs6 := BB.bel.size; clear hPB hb6) | ((with_reducible refine (partsAt_laid ((((BB.al _).al _).al _).dr) (W0.heap.size + 1 + 1) (W0.heap.size + 1) (W0.heap.size) [0, 0, 0] [0, 0, 1] ?_ ?_ ?_).mono ?_); (focus (simp [drew_sz]; done)); (focus (simp [drew_sz]; done)); (focus (simp [drew_sz]; done)); rintro e w6 ⟨p, rfl, hPB, hb6⟩; replace BB := (((((BB.al _).al _).al _).dr)).call hb6; have PB := Lib.hid hPB; have hs6 := BB.bel.size; clear hPB hb6) | ((with_reducible refine (partsAt_laid (((((BB.al _).al _).al _).al _).dr) (W0.heap.size + 1 + 1 + 1) (W0.heap.size + 1 + 1) (W0.heap.size + 1) [0, 0, 0] [0, 0, 1] ?_ ?_ ?_).mono ?_); (focus (simp [drew_sz]; done)); (focus (simp [drew_sz]; done)); (focus (simp [drew_sz]; done)); rintro e w6 ⟨p, rfl, hPB, hb6⟩; replace BB := ((((((BB.al _).al _).al _).al _).dr)).call hb6; have NB := BB.boxAt (j := 3) rfl; (try simp only [World.size_alloc] at NB); have nl6 := NB.lt; have hnb : W0.heap.size ≤ W0.heap.size := (by omega); have PB := Lib.hid hPB; have hs6 := BB.bel.size; clear hPB hb6) | ((with_reducible refine (partsAt_laid (((((BB.al _).al _).al _).al _).dr) (W0.heap.size + 1 + 1 + 1) (W0.heap.size + 1 + 1) (W0.heap.size) [0, 0, 0] [0, 0, 1] ?_ ?_ ?_).mono ?_); (focus (simp [drew_sz]; done)); (focus (simp [drew_sz]; done)); (focus (simp [drew_sz]; done)); rintro e w6 ⟨p, rfl, hPB, hb6⟩; replace BB := ((((((BB.al _).al _).al _).al _).dr)).call hb6; have NB := BB.boxAt (j := 2) rfl; (try simp only [World.size_alloc] at NB); have nl6 := NB.lt; have hnb : W0.heap.size ≤ W0.heap.size + 1 := (by omega); have PB := Lib.hid hPB; have hs6 := BB.bel.size; clear hPB hb6) | ((with_reducible refine (partsAt_laid (((((BB.al _).al _).al _).al _).dr) (W0.heap.size + 1 + 1 + 1) (W0.heap.size + 1) (W0.heap.size) [0, 0, 0] [0, 0, 1] ?_ ?_ ?_).mono ?_); (focus (simp [drew_sz]; done)); (focus (simp [drew_sz]; done)); (focus (simp [drew_sz]; done)); rintro e w6 ⟨p, rfl, hPB, hb6⟩; replace BB := ((((((BB.al _).al _).al _).al _).dr)).call hb6; have NB := BB.boxAt (j := 1) rfl; (try simp only [World.size_alloc] at NB); have nl6 := NB.lt; have hnb : W0.heap.size ≤ W0.heap.size + 1 + 1 := (by omega); have PB := Lib.hid hPB; have hs6 := BB.bel.size; clear hPB hb6) | ((with_reducible refine (partsAt_laid (((((BB.al _).al _).al _).al _).dr) (W0.heap.size + 1 + 1) (W0.heap.size + 1) (W0.heap.size) [0, 0, 0] [0, 0, 1] ?_ ?_ ?_).mono ?_); (focus (simp [drew_sz]; done)); (focus (simp [drew_sz]; done)); (focus (simp [drew_sz]; done)); rintro e w6 ⟨p, rfl, hPB, hb6⟩; replace BB := ((((((BB.al _).al _).al _).al _).dr)).call hb6; have NB := BB.boxAt (j := 0) rfl; (try simp only [World.size_alloc] at NB); have nl6 := NB.lt; have hnb : W0.heap.size ≤ W0.heap.size + 1 + 1 + 1 := (by omega); have PB := Lib.hid hPB; have hs6 := BB.bel.size; clear hPB hb6))))
      all_goals go_wp2_with fail
      all_goals go_meet
      all_goals first
        | exact ⟨_, _, _, A7, c7, rfl, rfl, S0.out.keep (bl_trans BB.bel (alB _ _)), ⟨BoxP.new _ _ _ _ _, OwnT.same _ (SameIn.of_below (alB _ _) (Nat.le_refl _)) HO.out, by have := HZ.out; omega, by simp, .inr (Nat.le_refl _), by have := HZ.out; omega⟩⟩
        | exact ⟨_, _, _, A7, c7, rfl, rfl, S0.out.keep ((BB.bel.setCell (p := ⟨_, 0, none⟩) hnb _).setCell (p := ⟨_, 1, none⟩) hnb _), ⟨(NB.set0 _ _ _).set1 _, (HO.out.off (.inl (by first | omega | (simp only [World.size_alloc, drew_sz] at *; omega))) _).off (.inl (by first | omega | (simp only [World.size_alloc, drew_sz] at *; omega))) _, by have := HZ.out; (first | omega | (simp only [World.size_alloc, drew_sz] at *; omega)), by simp, .inl (by first | omega | (simp only [World.size_alloc, drew_sz] at *; omega)), by have := HZ.out; omega⟩⟩
    case rest =>
      obtain ⟨nv, lo, hi, A7, c7, rfl, rfl, hS, hP⟩ := hcut
      have S1 := Lib.hid hS
      have P1 := Lib.hid hP
      clear hS hP
      have hkl : 0 < t.ks.length := by
        have h := PE.out
        cases hks : t.ks with
        | nil => rw [show partsAtT t [[0, 0, 0], [0, 0, 1]] = none from by rw [partsAtT, partAt_out t 0 _ (by rw [hks]; simp)]] at h; cases h
        | cons q r => simp
      obtain ⟨g, o, Aq, cq, hA, hg, q0, q1, q2, hq⟩ := HT.out.kid 0 hkl
      have hd : (t.ks.headD zeroT).i = t.ks[0].i := by
        have : ∀ (l : List Tr) (h : 0 < l.length), (l.headD zeroT).i = l[0].i := fun l h => by
          cases l with
          | nil => simp at h
          | cons q r => simp
        exact this _ hkl
      have R := Lib.hid (show splitV 5 t = some (l, t.ks[0].i) by rw [← hd]; exact SV.out)
      obtain ⟨x, hx⟩ : ∃ x, x = t.ks[0].i := ⟨_, rfl⟩
      rw [← hx] at q1 R
      subst hA
      have d1 := (S1.out.bel.cell (p := ⟨g, o + 0 * 3 + 1, none⟩) hg).trans q1
      rw [show o + 0 * 3 + 1 = o + 1 by omega] at d1
      clear q0 q1 q2 hq hd hx SV
      obtain ⟨x0, x1, x2⟩ := S1.out.xb.cells
      have pf := P1.out.pb.frozen 1
      obtain ⟨p0, p1⟩ := P1.out.pb.cells
      have S2 := Lib.hid (S1.out.setP P1.out.hnv 1 (.int .i64 x))
      have P2 := Lib.hid (show PL w (wc.setCell ⟨nv, 1, none⟩ (.int .i64 x)) nv lo hi l A7 c7 x from ⟨P1.out.pb.set1 x, P1.out.own.off P1.out.away _, P1.out.hlo, by simpa using P1.out.hhi, P1.out.away, P1.out.hnv⟩)
      go_upto_region 5 with fail
      generalize wc.setCell ⟨nv, 1, none⟩ (.int .i64 x) = W2 at S2 P2 ⊢
      clear x0 x1 x2 pf p0 p1 d1 S1 P1
      obtain ⟨p0, p1⟩ := P2.out.pb.cells
      obtain ⟨r0, r1⟩ := S2.out.rb.cells
      have f0 := S2.out.rb.frozen 0
      have f1 := S2.out.rb.frozen 1
      go_wp2_with fail
      obtain ⟨z0, z1⟩ := ((S2.out.rb.set0 A7 l.length c7).set1 x).cells
      refine bodyPost_ret (v := .tuple #[.agg #[.slice A7 l.length c7, .int .i64 x], .bool true]) (by simp [results, Tryz.results45, go_sem, z0, z1]) rfl ?_
      rw [R.out]
      have h1 := P2.out.hlo
      refine ⟨(S2.out.bel.setCell (p := ⟨w.heap.size + 1, 0, none⟩) (Nat.le_succ _) _).setCell (p := ⟨w.heap.size + 1, 1, none⟩) (Nat.le_succ _) _, A7, c7, rfl, FrT.own (hi := hi) ((P2.out.own.off (.inl (by omega)) _).off (.inl (by omega)) _) (by simpa using P2.out.hhi) (fun k hk => by omega) (fit_list (by rw [PN.out]; decide) fun q hq => right_fit9 (PR.out q hq))⟩
end Go.Proofs.YtgnfbhemkombaaaGreat
namespace Go.Proofs.YtgnfbhemkombaaaGreat
open Go.RowKit
set_option linter.unusedVariables false
set_option linter.unusedSimpArgs false
theorem OwnT.kidAv {w : World} {lo hi : Nat} {t : Tr} {A : Option Addr} {c : Nat} (h : OwnT w lo hi t A c) (m : Nat) (hm : m < t.ks.length) :
    ∃ g Aq cq lo' hi', A = some ⟨g, 0, none⟩ ∧ lo ≤ g ∧ g < hi ∧ g < w.heap.size ∧ (∀ o, w.frozen? ⟨g, o, none⟩ = false) ∧ w.cell? ⟨g, m * 3, none⟩ = some (.int .i64 t.ks[m].k) ∧ w.cell? ⟨g, m * 3 + 1, none⟩ = some (.int .i64 t.ks[m].i) ∧ w.cell? ⟨g, m * 3 + 2, none⟩ = some (.slice Aq t.ks[m].ks.length cq) ∧
      lo ≤ lo' ∧ hi' ≤ hi ∧ ¬ (lo' ≤ g ∧ g < hi') ∧ OwnT w lo' hi' t.ks[m] Aq cq ∧ t.ks.length ≤ c := by
  obtain ⟨cs, h1, h2, h3, h4⟩ := ownT_eq.1 h
  obtain ⟨l1, h1', a, b, c', e, f⟩ := h4.get h1 m hm
  obtain ⟨r0, r1, r2⟩ := rowC_get t.ks cs m hm h1
  rcases h2.2 with ⟨e, hn⟩ | ⟨g, cap, cur, e', hb, hh, hc, _⟩
  · omega
  · cases e'
    have q0 := h2.cellAt (m * 3) (by omega)
    have q1 := h2.cellAt (m * 3 + 1) (by omega)
    have q2 := h2.cellAt (m * 3 + 2) (by omega)
    have hg := h2.lt g rfl
    exact ⟨g, (cs[m]'(by omega)).1, (cs[m]'(by omega)).2, l1, h1', rfl, hb, h3 g rfl, hg.2, fun o => by simp [World.frozen?, hh], by rw [q0, r0], by rw [q1, r1], by rw [q2, r2], a, c', e g rfl, f, hc⟩
/-- a row of two trees -/
theorem fr_two {X : Nat → Prop} {W : World} {g c : Nat} {a v : Tr} {Aa Av : Option Addr} {ca cv : Nat} (hX : ¬ X g) (hg : g < W.heap.size) (hc : 2 ≤ c) (fa : FrT X W a Aa ca) (fv : FrT X W v Av cv)
    (a0 : W.cell? ⟨g, 0, none⟩ = some (.int .i64 a.k)) (a1 : W.cell? ⟨g, 1, none⟩ = some (.int .i64 a.i)) (a2 : W.cell? ⟨g, 2, none⟩ = some (.slice Aa a.ks.length ca))
    (v0 : W.cell? ⟨g, 3, none⟩ = some (.int .i64 v.k)) (v1 : W.cell? ⟨g, 4, none⟩ = some (.int .i64 v.i)) (v2 : W.cell? ⟨g, 5, none⟩ = some (.slice Av v.ks.length cv)) : FrT X W (.node 0 0 [a, v]) (some ⟨g, 0, none⟩) c := by
  intro W' h1 h2
  have cell : ∀ j, W'.cell? ⟨g, j, none⟩ = W.cell? ⟨g, j, none⟩ := fun j => by unfold World.cell?; rw [h1 g hg hX]
  refine IsT.mk hc (by show Cap 2; unfold Cap; decide) fun m hm => ?_
  match m, hm with
  | 0, _ => exact ⟨g, 0, Aa, ca, rfl, by omega, (cell 0).trans a0, (cell 1).trans a1, (cell 2).trans a2, fa W' h1 h2⟩
  | 1, _ => exact ⟨g, 0, Av, cv, rfl, by omega, (cell 3).trans v0, (cell 4).trans v1, (cell 5).trans v2, fv W' h1 h2⟩
theorem FrT.weak {X Y : Nat → Prop} {W : World} {t : Tr} {A : Option Addr} {c : Nat} (h : FrT X W t A c) (hs : ∀ k, Y k → X k) : FrT Y W t A c := fun W' h1 h2 => h W' (fun k hk hn => h1 k hk (fun hy => hn (hs k hy))) h2
/-- the parts of the fourth schema, with what stands for the variable written into their row -/
theorem end4 {w W4 : World} {t a b v : Tr} {A Aa Ab Av : Option Addr} {c ca cb cv g c7 la ha : Nat} {x : Int} (hS : SB w W4 t A c) (hg : w.heap.size + 2 ≤ g) (hgs : g < W4.heap.size) (hc : 2 ≤ c7)
    (hao : OwnT W4 la ha a Aa ca) (hla : w.heap.size + 2 ≤ la) (hha : ha ≤ W4.heap.size) (hav : ¬ (la ≤ g ∧ g < ha)) (fita : a.fit)
    (fv : FrT (fun k => k < w.heap.size + 2) (((W4.setCell ⟨g, 3, none⟩ (.int .i64 v.k)).setCell ⟨g, 4, none⟩ (.int .i64 v.i)).setCell ⟨g, 5, none⟩ (.slice Av v.ks.length cv)) v Av cv)
    (c0 : W4.cell? ⟨g, 0, none⟩ = some (.int .i64 a.k)) (c1 : W4.cell? ⟨g, 1, none⟩ = some (.int .i64 a.i)) (c2 : W4.cell? ⟨g, 2, none⟩ = some (.slice Aa a.ks.length ca))
    (c3 : W4.cell? ⟨g, 3, none⟩ = some (.int .i64 b.k)) (c4 : W4.cell? ⟨g, 4, none⟩ = some (.int .i64 b.i)) (c5 : W4.cell? ⟨g, 5, none⟩ = some (.slice Ab b.ks.length cb)) :
    SplitP w (some ([a, v], x)) (.returned (.tuple #[.agg #[.slice (some ⟨g, 0, none⟩) 2 c7, .int .i64 x], .bool true]))
      (((((W4.setCell ⟨g, 3, none⟩ (.int .i64 v.k)).setCell ⟨g, 4, none⟩ (.int .i64 v.i)).setCell ⟨g, 5, none⟩ (.slice Av v.ks.length cv)).setCell ⟨w.heap.size + 1, 0, none⟩ (.slice (some ⟨g, 0, none⟩) 2 c7)).setCell ⟨w.heap.size + 1, 1, none⟩ (.int .i64 x)) := by
  have ne : ∀ i j : Nat, i ≠ j → (⟨g, i, none⟩ : Addr) ≠ ⟨g, j, none⟩ := fun i j h e => by cases e; exact h rfl
  have off : ∀ (W : World) (i j : Nat) (y : Value), i ≠ j → (W.setCell ⟨g, i, none⟩ y).cell? ⟨g, j, none⟩ = W.cell? ⟨g, j, none⟩ := fun W i j y h => World.cell?_setCell_other _ _ _ _ (ne i j h)
  have B5 := (((hS.setP hg 3 (.int .i64 v.k)).setP hg 4 (.int .i64 v.i)).setP hg 5 (.slice Av v.ks.length cv)).bel
  have sz : ((((W4.setCell ⟨g, 3, none⟩ (.int .i64 v.k)).setCell ⟨g, 4, none⟩ (.int .i64 v.i)).setCell ⟨g, 5, none⟩ (.slice Av v.ks.length cv))).heap.size = W4.heap.size := by simp
  have e0 := ((off _ 5 0 (.slice Av v.ks.length cv) (by omega)).trans ((off _ 4 0 (.int .i64 v.i) (by omega)).trans (off W4 3 0 (.int .i64 v.k) (by omega)))).trans c0
  have e1 := ((off _ 5 1 (.slice Av v.ks.length cv) (by omega)).trans ((off _ 4 1 (.int .i64 v.i) (by omega)).trans (off W4 3 1 (.int .i64 v.k) (by omega)))).trans c1
  have e2 := ((off _ 5 2 (.slice Av v.ks.length cv) (by omega)).trans ((off _ 4 2 (.int .i64 v.i) (by omega)).trans (off W4 3 2 (.int .i64 v.k) (by omega)))).trans c2
  have e3 := ((off _ 5 3 (.slice Av v.ks.length cv) (by omega)).trans ((off _ 4 3 (.int .i64 v.i) (by omega)).trans (World.cell?_setCell_same W4 _ (.int .i64 v.k) c3)))
  have e4 := ((off _ 5 4 (.slice Av v.ks.length cv) (by omega)).trans (World.cell?_setCell_same _ _ (.int .i64 v.i) ((off W4 3 4 (.int .i64 v.k) (by omega)).trans c4)))
  have e5 := (World.cell?_setCell_same _ _ (.slice Av v.ks.length cv) ((off _ 4 5 (.int .i64 v.i) (by omega)).trans ((off W4 3 5 (.int .i64 v.k) (by omega)).trans c5)))
  have fa : FrT (fun k => k < w.heap.size + 2) (((W4.setCell ⟨g, 3, none⟩ (.int .i64 v.k)).setCell ⟨g, 4, none⟩ (.int .i64 v.i)).setCell ⟨g, 5, none⟩ (.slice Av v.ks.length cv)) a Aa ca :=
    FrT.own (OwnT.same a (fun k k1 k2 => by
      have hk : k ≠ g := fun h => hav (h ▸ ⟨k1, k2⟩)
      rw [heap_setCell_other _ _ _ _ hk, heap_setCell_other _ _ _ _ hk, heap_setCell_other _ _ _ _ hk]) hao) (by omega) (fun k hk => by omega) fita
  generalize (((W4.setCell ⟨g, 3, none⟩ (.int .i64 v.k)).setCell ⟨g, 4, none⟩ (.int .i64 v.i)).setCell ⟨g, 5, none⟩ (.slice Av v.ks.length cv)) = W5 at fv B5 sz e0 e1 e2 e3 e4 e5 fa ⊢
  have F := fr_two (X := fun k => k < w.heap.size + 2) (W := W5) (by show ¬ g < w.heap.size + 2; omega) (by omega) hc fa fv e0 e1 e2 e3 e4 e5
  refine ⟨(B5.setCell (p := ⟨w.heap.size + 1, 0, none⟩) (Nat.le_succ _) _).setCell (p := ⟨w.heap.size + 1, 1, none⟩) (Nat.le_succ _) _, some ⟨g, 0, none⟩, c7, rfl, FrT.weak (X := fun k => k < w.heap.size + 2) (F.move (fun k hk hn => ?_) (by simp)) (fun k hk => Nat.lt_of_lt_of_le hk (by omega))⟩
  have hk1 : k ≠ w.heap.size + 1 := fun h => hn (by show k < w.heap.size + 2; omega)
  rw [heap_setCell_other _ _ _ _ hk1, heap_setCell_other _ _ _ _ hk1]
set_option maxHeartbeats 40000000 in
set_option maxRecDepth 100000 in
theorem split4_any (t : Tr) (A : Option Addr) (c : Nat) (w : World) (ht : IsT w w.heap.size t A c) (hr : rightN t = 0) :
    Calls Tryz.prog 42 #[.agg #[.int .i64 t.k, .int .i64 t.i, .slice A t.ks.length c]] w (SplitP w (splitV 4 t)) := by
  obtain ⟨W0, hW0⟩ : ∃ W0, W0 = (w.alloc (.cells #[.int .i64 t.k, .int .i64 t.i, .slice A t.ks.length c] 24)).alloc (.cells #[.slice none 0 0, .int .i64 0] 32) := ⟨_, rfl⟩
  have S0 := Lib.hid (show SB w W0 t A c by rw [hW0]; exact SB.start w t A c)
  have HZ := Lib.hid (show W0.heap.size = w.heap.size + 2 by rw [hW0]; simp)
  have HT := Lib.hid ht
  have HR := Lib.hid hr
  have HW := Lib.hid hW0
  clear ht hr hW0
  go_enter Tryz.func42, Tryz.ntmps42
  go_upto_region 1 with fail
  rw [← HW.out]
  have SS := Lib.hid (fun (W : World) (h : Below W0.heap.size W0 W) => (S0.out.keep h).xb.cells)
  have CLO := Lib.hid (fun (W : World) (h : Below W0.heap.size W0 W) (p : Nat) (hp : PathsBox W 0 W.heap.size p [[0, 0], [1]]) => (partsAt1_any t A c p 0 [[0, 0], [1]] W (HT.out.keep (S0.out.keep h).bel (S0.out.keep h).bel.size) HR.out hp (by decide) (fun j hj => by
    match j, hj with
    | 0, _ => simp
    | 1, _ => simp) : Calls Tryz.prog 77 #[.agg #[.int .i64 t.k, .int .i64 t.i, .slice A t.ks.length c], .pointer (some ⟨p, 0, none⟩)] W (PartsP W ((partsAtT t [[0, 0], [1]]).map fun l => (l, 0)))))
  have SV := Lib.hid (show splitV 4 t = (match partsAtT t [[0, 0], [1]] with | none => none | some l => match l with | [a, b] => some ([a, (standT (t.ks.headD zeroT).i a b).getD (varT (t.ks.headD zeroT).i)], (t.ks.headD zeroT).i) | _ => none) from rfl)
  cases hp : partsAtT t [[0, 0], [1]] with
  | none =>
    rw [hp] at CLO SV
    have R := Lib.hid (show splitV 4 t = none from SV.out)
    clear SV
    go_cut [4, 5] (fun v f wc => ∃ nv, v = .pointer (some ⟨nv, 0, none⟩) ∧ f = .bool false ∧ SB w wc t A c)
    case first =>
      have BB : Trg W0 W0 [] := Trg.nil _
      go_region_held3 (fun w' => w'.cell? ⟨w.heap.size, 0, none⟩ = some (.int .i64 t.k) ∧ w'.cell? ⟨w.heap.size, 1, none⟩ = some (.int .i64 t.i) ∧ w'.cell? ⟨w.heap.size, 2, none⟩ = some (.slice A t.ks.length c))
        (first | (with_reducible exact SS.out _ BB.bel) | (with_reducible exact SS.out _ BB.dr.bel) | (with_reducible exact SS.out _ (BB.al _).bel) | (with_reducible exact SS.out _ (BB.al _).dr.bel) | (with_reducible exact SS.out _ ((BB.al _).al _).bel) | (with_reducible exact SS.out _ ((BB.al _).al _).dr.bel) | (with_reducible exact SS.out _ (((BB.al _).al _).al _).bel) | (with_reducible exact SS.out _ (((BB.al _).al _).al _).dr.bel) | (with_reducible exact SS.out _ ((((BB.al _).al _).al _).al _).bel) | (with_reducible exact SS.out _ ((((BB.al _).al _).al _).al _).dr.bel) | (with_reducible exact SS.out _ ((BB.bel.setCell (p := ⟨_, 0, none⟩) hnb _).setCell (p := ⟨_, 1, none⟩) hnb _)) | exact SS.out _ ((BB.bel.setCell (p := ⟨_, 0, none⟩) hnb _).setCell (p := ⟨_, 1, none⟩) hnb _))
        (first
          | (go_at_call 77; (first | (have PB2 := PB.out.keep (alB w6 (.cells #[.slice none 0 0, .int .i64 0] 32)) (alB w6 (.cells #[.slice none 0 0, .int .i64 0] 32)).size; ((with_reducible refine (CLO.out _ ((BB.al (.cells #[.slice none 0 0, .int .i64 0] 32))).bel p PB2).mono ?_); rintro e w7 ⟨hb7, rfl⟩; have hlo := ((BB.al (.cells #[.slice none 0 0, .int .i64 0] 32))).bel.size; have hs7a := hb7.size; replace BB := ((BB.al (.cells #[.slice none 0 0, .int .i64 0] 32))).call hb7; have NB := BB.boxAt (j := 0) rfl; have hnb : W0.heap.size ≤ w6.heap.size := hs6; clear PB2)) | ((with_reducible refine (CLO.out _ (BB).bel p PB.out).mono ?_); rintro e w7 ⟨hb7, rfl⟩; have hlo := (BB).bel.size; have hs7a := hb7.size; replace BB := (BB).call hb7; (try replace NB := NB.keep hb7 NB.lt); skip)); (try (obtain ⟨n0, n1⟩ := NB.cells; have nf0 := NB.frozen 0; have nf1 := NB.frozen 1; have nlt := NB.lt)); clear hb7)
          | (go_at_call 37; (first | ((with_reducible refine (partsAt_laid ((((BB.al _).al _).al _).dr) (W0.heap.size + 1 + 1) (W0.heap.size) (W0.heap.size + 1) [0, 0] [1] ?_ ?_ ?_).mono ?_); (focus (simp [drew_sz]; done)); (focus (simp [drew_sz]; done)); (focus (simp [drew_sz]; done)); rintro e w6 ⟨p, rfl, hPB, hb6⟩; replace BB := (((((BB.al _).al _).al _).dr)).call hb6; have PB := Lib.hid hPB; have hs6 := BB.bel.size; clear hPB hb6) | ((with_reducible refine (partsAt_laid (((((BB.al _).al _).al _).al _).dr) (W0.heap.size + 1 + 1 + 1) (W0.heap.size + 1) (W0.heap.size + 1 + 1) [0, 0] [1] ?_ ?_ ?_).mono ?_); (focus (simp [drew_sz]; done)); (focus (simp [drew_sz]; done)); (focus (simp [drew_sz]; done)); rintro e w6 ⟨p, rfl, hPB, hb6⟩; replace BB := ((((((BB.al _).al _).al _).al _).dr)).call hb6; have NB := BB.boxAt (j := 3) rfl; (try simp only [World.size_alloc] at NB); have nl6 := NB.lt; have hnb : W0.heap.size ≤ W0.heap.size := (by omega); have PB := Lib.hid hPB; have hs6 := BB.bel.size; clear hPB hb6) | ((with_reducible refine (partsAt_laid (((((BB.al _).al _).al _).al _).dr) (W0.heap.size + 1 + 1 + 1) (W0.heap.size) (W0.heap.size + 1 + 1) [0, 0] [1] ?_ ?_ ?_).mono ?_); (focus (simp [drew_sz]; done)); (focus (simp [drew_sz]; done)); (focus (simp [drew_sz]; done)); rintro e w6 ⟨p, rfl, hPB, hb6⟩; replace BB := ((((((BB.al _).al _).al _).al _).dr)).call hb6; have NB := BB.boxAt (j := 2) rfl; (try simp only [World.size_alloc] at NB); have nl6 := NB.lt; have hnb : W0.heap.size ≤ W0.heap.size + 1 := (by omega); have PB := Lib.hid hPB; have hs6 := BB.bel.size; clear hPB hb6) | ((with_reducible refine (partsAt_laid (((((BB.al _).al _).al _).al _).dr) (W0.heap.size + 1 + 1 + 1) (W0.heap.size) (W0.heap.size + 1) [0, 0] [1] ?_ ?_ ?_).mono ?_); (focus (simp [drew_sz]; done)); (focus (simp [drew_sz]; done)); (focus (simp [drew_sz]; done)); rintro e w6 ⟨p, rfl, hPB, hb6⟩; replace BB := ((((((BB.al _).al _).al _).al _).dr)).call hb6; have NB := BB.boxAt (j := 1) rfl; (try simp only [World.size_alloc] at NB); have nl6 := NB.lt; have hnb : W0.heap.size ≤ W0.heap.size + 1 + 1 := (by omega); have PB := Lib.hid hPB; have hs6 := BB.bel.size; clear hPB hb6) | ((with_reducible refine (partsAt_laid (((((BB.al _).al _).al _).al _).dr) (W0.heap.size + 1 + 1) (W0.heap.size) (W0.heap.size + 1) [0, 0] [1] ?_ ?_ ?_).mono ?_); (focus (simp [drew_sz]; done)); (focus (simp [drew_sz]; done)); (focus (simp [drew_sz]; done)); rintro e w6 ⟨p, rfl, hPB, hb6⟩; replace BB := ((((((BB.al _).al _).al _).al _).dr)).call hb6; have NB := BB.boxAt (j := 0) rfl; (try simp only [World.size_alloc] at NB); have nl6 := NB.lt; have hnb : W0.heap.size ≤ W0.heap.size + 1 + 1 + 1 := (by omega); have PB := Lib.hid hPB; have hs6 := BB.bel.size; clear hPB hb6) | ((with_reducible refine (partsAt_laid ((((BB.al _).al _).al _).dr) (W0.heap.size + 1 + 1) (W0.heap.size + 1) (W0.heap.size) [0, 0] [1] ?_ ?_ ?_).mono ?_); (focus (simp [drew_sz]; done)); (focus (simp [drew_sz]; done)); (focus (simp [drew_sz]; done)); rintro e w6 ⟨p, rfl, hPB, hb6⟩; replace BB := (((((BB.al _).al _).al _).dr)).call hb6; have PB := Lib.hid hPB; have hs6 := BB.bel.size; clear hPB hb6) | ((with_reducible refine (partsAt_laid (((((BB.al _).al _).al _).al _).dr) (W0.heap.size + 1 + 1 + 1) (W0.heap.size + 1 + 1) (W0.heap.size + 1) [0, 0] [1] ?_ ?_ ?_).mono ?_); (focus (simp [drew_sz]; done)); (focus (simp [drew_sz]; done)); (focus (simp [drew_sz]; done)); rintro e w6 ⟨p, rfl, hPB, hb6⟩; replace BB := ((((((BB.al _).al _).al _).al _).dr)).call hb6; have NB := BB.boxAt (j := 3) rfl; (try simp only [World.size_alloc] at NB); have nl6 := NB.lt; have hnb : W0.heap.size ≤ W0.heap.size := (by omega); have PB := Lib.hid hPB; have hs6 := BB.bel.size; clear hPB hb6) | ((with_reducible refine (partsAt_laid (((((BB.al _).al _).al _).al _).dr) (W0.heap.size + 1 + 1 + 1) (W0.heap.size + 1 + 1) (W0.heap.size) [0, 0] [1] ?_ ?_ ?_).mono ?_); (focus (simp [drew_sz]; done)); (focus (simp [drew_sz]; done)); (focus (simp [drew_sz]; done)); rintro e w6 ⟨p, rfl, hPB, hb6⟩; replace BB := ((((((BB.al _).al _).al _).al _).dr)).call hb6; have NB := BB.boxAt (j := 2) rfl; (try simp only [World.size_alloc] at NB); have nl6 := NB.lt; have hnb : W0.heap.size ≤ W0.heap.size + 1 := (by omega); have PB := Lib.hid hPB; have hs6 := BB.bel.size; clear hPB hb6) | ((with_reducible refine (partsAt_laid (((((BB.al _).al _).al _).al _).dr) (W0.heap.size + 1 + 1 + 1) (W0.heap.size + 1) (W0.heap.size) [0, 0] [1] ?_ ?_ ?_).mono ?_); (focus (simp [drew_sz]; done)); (focus (simp [drew_sz]; done)); (focus (simp [drew_sz]; done)); rintro e w6 ⟨p, rfl, hPB, hb6⟩; replace BB := ((((((BB.al _).al _).al _).al _).dr)).call hb6; have NB := BB.boxAt (j := 1) rfl; (try simp only [World.size_alloc] at NB); have nl6 := NB.lt; have hnb : W0.heap.size ≤ W0.heap.size + 1 + 1 := (by omega); have PB := Lib.hid hPB; have hs6 := BB.bel.size; clear hPB hb6) | ((with_reducible refine (partsAt_laid (((((BB.al _).al _).al _).al _).dr) (W0.heap.size + 1 + 1) (W0.heap.size + 1) (W0.heap.size) [0, 0] [1] ?_ ?_ ?_).mono ?_); (focus (simp [drew_sz]; done)); (focus (simp [drew_sz]; done)); (focus (simp [drew_sz]; done)); rintro e w6 ⟨p, rfl, hPB, hb6⟩; replace BB := ((((((BB.al _).al _).al _).al _).dr)).call hb6; have NB := BB.boxAt (j := 0) rfl; (try simp only [World.size_alloc] at NB); have nl6 := NB.lt; have hnb : W0.heap.size ≤ W0.heap.size + 1 + 1 + 1 := (by omega); have PB := Lib.hid hPB; have hs6 := BB.bel.size; clear hPB hb6))))
      all_goals go_wp2_with fail
      all_goals go_meet
      all_goals first
        | exact ⟨_, rfl, rfl, S0.out.keep (bl_trans BB.bel (alB _ _))⟩
        | exact ⟨_, rfl, rfl, S0.out.keep ((BB.bel.setCell (p := ⟨_, 0, none⟩) hnb _).setCell (p := ⟨_, 1, none⟩) hnb _)⟩
    case rest =>
      obtain ⟨nv, rfl, rfl, hS⟩ := hcut
      obtain ⟨r0, r1⟩ := hS.rb.cells
      have f0 := hS.rb.frozen 0
      have f1 := hS.rb.frozen 1
      have S1 := Lib.hid hS
      clear hS
      go_wp2_with fail
      obtain ⟨z0, z1⟩ := ((S1.out.rb.set0 none 0 0).set1 0).cells
      refine bodyPost_ret (v := .tuple #[.agg #[.slice none 0 0, .int .i64 0], .bool false]) (by simp [results, Tryz.results42, go_sem, z0, z1]) rfl ?_
      rw [R.out]
      exact ⟨(S1.out.bel.setCell (p := ⟨w.heap.size + 1, 0, none⟩) (Nat.le_succ _) _).setCell (p := ⟨w.heap.size + 1, 1, none⟩) (Nat.le_succ _) _, rfl⟩
  | some l =>
    have PR := Lib.hid (partsAtT_right HR.out hp)
    have PN := Lib.hid (partsAtT_len hp)
    have PE := Lib.hid hp
    rw [hp] at CLO SV
    clear hp
    go_cut [4, 5] (fun v f wc => ∃ nv lo hi A7 c7, v = .pointer (some ⟨nv, 0, none⟩) ∧ f = .bool true ∧ SB w wc t A c ∧ PL w wc nv lo hi l A7 c7 0)
    case first =>
      have BB : Trg W0 W0 [] := Trg.nil _
      go_region_held3 (fun w' => w'.cell? ⟨w.heap.size, 0, none⟩ = some (.int .i64 t.k) ∧ w'.cell? ⟨w.heap.size, 1, none⟩ = some (.int .i64 t.i) ∧ w'.cell? ⟨w.heap.size, 2, none⟩ = some (.slice A t.ks.length c))
        (first | (with_reducible exact SS.out _ BB.bel) | (with_reducible exact SS.out _ BB.dr.bel) | (with_reducible exact SS.out _ (BB.al _).bel) | (with_reducible exact SS.out _ (BB.al _).dr.bel) | (with_reducible exact SS.out _ ((BB.al _).al _).bel) | (with_reducible exact SS.out _ ((BB.al _).al _).dr.bel) | (with_reducible exact SS.out _ (((BB.al _).al _).al _).bel) | (with_reducible exact SS.out _ (((BB.al _).al _).al _).dr.bel) | (with_reducible exact SS.out _ ((((BB.al _).al _).al _).al _).bel) | (with_reducible exact SS.out _ ((((BB.al _).al _).al _).al _).dr.bel) | (with_reducible exact SS.out _ ((BB.bel.setCell (p := ⟨_, 0, none⟩) hnb _).setCell (p := ⟨_, 1, none⟩) hnb _)) | exact SS.out _ ((BB.bel.setCell (p := ⟨_, 0, none⟩) hnb _).setCell (p := ⟨_, 1, none⟩) hnb _))
        (first
          | (go_at_call 77; (first | (have PB2 := PB.out.keep (alB w6 (.cells #[.slice none 0 0, .int .i64 0] 32)) (alB w6 (.cells #[.slice none 0 0, .int .i64 0] 32)).size; ((with_reducible refine (CLO.out _ ((BB.al (.cells #[.slice none 0 0, .int .i64 0] 32))).bel p PB2).mono ?_); rintro e w7 ⟨hb7, A7, c7, rfl, ho7⟩; have hlo := ((BB.al (.cells #[.slice none 0 0, .int .i64 0] 32))).bel.size; have hs7a := hb7.size; have HO := Lib.hid ho7; clear ho7; replace BB := ((BB.al (.cells #[.slice none 0 0, .int .i64 0] 32))).call hb7; have NB := BB.boxAt (j := 0) rfl; have hnb : W0.heap.size ≤ w6.heap.size := hs6; clear PB2)) | ((with_reducible refine (CLO.out _ (BB).bel p PB.out).mono ?_); rintro e w7 ⟨hb7, A7, c7, rfl, ho7⟩; have hlo := (BB).bel.size; have hs7a := hb7.size; have HO := Lib.hid ho7; clear ho7; replace BB := (BB).call hb7; (try replace NB := NB.keep hb7 NB.lt); skip)); (try (obtain ⟨n0, n1⟩ := NB.cells; have nf0 := NB.frozen 0; have nf1 := NB.frozen 1; have nlt := NB.lt)); clear hb7)
          | (go_at_call 37; (first | ((with_reducible refine (partsAt_laid ((((BB.al _).al _).al _).dr) (W0.heap.size + 1 + 1) (W0.heap.size) (W0.heap.size + 1) [0, 0] [1] ?_ ?_ ?_).mono ?_); (focus (simp [drew_sz]; done)); (focus (simp [drew_sz]; done)); (focus (simp [drew_sz]; done)); rintro e w6 ⟨p, rfl, hPB, hb6⟩; replace BB := (((((BB.al _).al _).al _).dr)).call hb6; have PB := Lib.hid hPB; have hs6 := BB.bel.size; clear hPB hb6) | ((with_reducible refine (partsAt_laid (((((BB.al _).al _).al _).al _).dr) (W0.heap.size + 1 + 1 + 1) (W0.heap.size + 1) (W0.heap.size + 1 + 1) [0, 0] [1] ?_ ?_ ?_).mono ?_); (focus (simp [drew_sz]; done)); (focus (simp [drew_sz]; done)); (focus (simp [drew_sz]; done)); rintro e w6 ⟨p, rfl, hPB, hb6⟩; replace BB := ((((((BB.al _).al _).al _).al _).dr)).call hb6; have NB := BB.boxAt (j := 3) rfl; (try simp only [World.size_alloc] at NB); have nl6 := NB.lt; have hnb : W0.heap.size ≤ W0.heap.size := (by omega); have PB := Lib.hid hPB; have hs6 := BB.bel.size; clear hPB hb6) | ((with_reducible refine (partsAt_laid (((((BB.al _).al _).al _).al _).dr) (W0.heap.size + 1 + 1 + 1) (W0.heap.size) (W0.heap.size + 1 + 1) [0, 0] [1] ?_ ?_ ?_).mono ?_); (focus (simp [drew_sz]; done)); (focus (simp [drew_sz]; done)); (focus (simp [drew_sz]; done)); rintro e w6 ⟨p, rfl, hPB, hb6⟩; replace BB := ((((((BB.al _).al _).al _).al _).dr)).call hb6; have NB := BB.boxAt (j := 2) rfl; (try simp only [World.size_alloc] at NB); have nl6 := NB.lt; have hnb : W0.heap.size ≤ W0.heap.size + 1 := (by omega); have PB := Lib.hid hPB; have hs6 := BB.bel.size; clear hPB hb6) | ((with_reducible refine (partsAt_laid (((((BB.al _).al _).al _).al _).dr) (W0.heap.size + 1 + 1 + 1) (W0.heap.size) (W0.heap.size + 1) [0, 0] [1] ?_ ?_ ?_).mono ?_); (focus (simp [drew_sz]; done)); (focus (simp [drew_sz]; done)); (focus (simp [drew_sz]; done)); rintro e w6 ⟨p, rfl, hPB, hb6⟩; replace BB := ((((((BB.al _).al _).al _).al _).dr)).call hb6; have NB := BB.boxAt (j := 1) rfl; (try simp only [World.size_alloc] at NB); have nl6 := NB.lt; have hnb : W0.heap.size ≤ W0.heap.size + 1 + 1 := (by omega); have PB := Lib.hid hPB; have hs6 := BB.bel.size; clear hPB hb6) | ((with_reducible refine (partsAt_laid (((((BB.al _).al _).al _).al _).dr) (W0.heap.size + 1 + 1) (W0.heap.size) (W0.heap.size + 1) [0, 0] [1] ?_ ?_ ?_).mono ?_); (focus (simp [drew_sz]; done)); (focus (simp [drew_sz]; done)); (focus (simp [drew_sz]; done)); rintro e w6 ⟨p, rfl, hPB, hb6⟩; replace BB := ((((((BB.al _).al _).al _).al _).dr)).call hb6; have NB := BB.boxAt (j := 0) rfl; (try simp only [World.size_alloc] at NB); have nl6 := NB.lt; have hnb : W0.heap.size ≤ W0.heap.size + 1 + 1 + 1 := (by omega); have PB := Lib.hid hPB; have hs6 := BB.bel.size; clear hPB hb6) | ((with_reducible refine (partsAt_laid ((((BB.al _).al _).al _).dr) (W0.heap.size + 1 + 1) (W0.heap.size + 1) (W0.heap.size) [0, 0] [1] ?_ ?_ ?_).mono ?_); (focus (simp [drew_sz]; done)); (focus (simp [drew_sz]; done)); (focus (simp [drew_sz]; done)); rintro e w6 ⟨p, rfl, hPB, hb6⟩; replace BB := (((((BB.al _).al _).al _).dr)).call hb6; have PB := Lib.hid hPB; have hs6 := BB.bel.size; clear hPB hb6) | ((with_reducible refine (partsAt_laid (((((BB.al _).al _).al _).al _).dr) (W0.heap.size + 1 + 1 + 1) (W0.heap.size + 1 + 1) (W0.heap.size + 1) [0, 0] [1] ?_ ?_ ?_).mono ?_); (focus (simp [drew_sz]; done)); (focus (simp [drew_sz]; done)); (focus (simp [drew_sz]; done)); rintro e w6 ⟨p, rfl, hPB, hb6⟩; replace BB := ((((((BB.al _).al _).al _).al _).dr)).call hb6; have NB := BB.boxAt (j := 3) rfl; (try simp only [World.size_alloc] at NB); have nl6 := NB.lt; have hnb : W0.heap.size ≤ W0.heap.size := (by omega); have PB := Lib.hid hPB; have hs6 := BB.bel.size; clear hPB hb6) | ((with_reducible refine (partsAt_laid (((((BB.al _).al _).al _).al _).dr) (W0.heap.size + 1 + 1 + 1) (W0.heap.size + 1 + 1) (W0.heap.size) [0, 0] [1] ?_ ?_ ?_).mono ?_); (focus (simp [drew_sz]; done)); (focus (simp [drew_sz]; done)); (focus (simp [drew_sz]; done)); rintro e w6 ⟨p, rfl, hPB, hb6⟩; replace BB := ((((((BB.al _).al _).al _).al _).dr)).call hb6; have NB := BB.boxAt (j := 2) rfl; (try simp only [World.size_alloc] at NB); have nl6 := NB.lt; have hnb : W0.heap.size ≤ W0.heap.size + 1 := (by omega); have PB := Lib.hid hPB; have hs6 := BB.bel.size; clear hPB hb6) | ((with_reducible refine (partsAt_laid (((((BB.al _).al _).al _).al _).dr) (W0.heap.size + 1 + 1 + 1) (W0.heap.size + 1) (W0.heap.size) [0, 0] [1] ?_ ?_ ?_).mono ?_); (focus (simp [drew_sz]; done)); (focus (simp [drew_sz]; done)); (focus (simp [drew_sz]; done)); rintro e w6 ⟨p, rfl, hPB, hb6⟩; replace BB := ((((((BB.al _).al _).al _).al _).dr)).call hb6; have NB := BB.boxAt (j := 1) rfl; (try simp only [World.size_alloc] at NB); have nl6 := NB.lt; have hnb : W0.heap.size ≤ W0.heap.size + 1 + 1 := (by omega); have PB := Lib.hid hPB; have hs6 := BB.bel.size; clear hPB hb6) | ((with_reducible refine (partsAt_laid (((((BB.al _).al _).al _).al _).dr) (W0.heap.size + 1 + 1) (W0.heap.size + 1) (W0.heap.size) [0, 0] [1] ?_ ?_ ?_).mono ?_); (focus (simp [drew_sz]; done)); (focus (simp [drew_sz]; done)); (focus (simp [drew_sz]; done)); rintro e w6 ⟨p, rfl, hPB, hb6⟩; replace BB := ((((((BB.al _).al _).al _).al _).dr)).call hb6; have NB := BB.boxAt (j := 0) rfl; (try simp only [World.size_alloc] at NB); have nl6 := NB.lt; have hnb : W0.heap.size ≤ W0.heap.size + 1 + 1 + 1 := (by omega); have PB := Lib.hid hPB; have hs6 := BB.bel.size; clear hPB hb6))))
      all_goals go_wp2_with fail
      all_goals go_meet
      all_goals first
        | exact ⟨_, _, _, A7, c7, rfl, rfl, S0.out.keep (bl_trans BB.bel (alB _ _)), ⟨BoxP.new _ _ _ _ _, OwnT.same _ (SameIn.of_below (alB _ _) (Nat.le_refl _)) HO.out, by have := HZ.out; omega, by simp, .inr (Nat.le_refl _), by have := HZ.out; omega⟩⟩
        | exact ⟨_, _, _, A7, c7, rfl, rfl, S0.out.keep ((BB.bel.setCell (p := ⟨_, 0, none⟩) hnb _).setCell (p := ⟨_, 1, none⟩) hnb _), ⟨(NB.set0 _ _ _).set1 _, (HO.out.off (.inl (by first | omega | (simp only [World.size_alloc, drew_sz] at *; omega))) _).off (.inl (by first | omega | (simp only [World.size_alloc, drew_sz] at *; omega))) _, by have := HZ.out; (first | omega | (simp only [World.size_alloc, drew_sz] at *; omega)), by simp, .inl (by first | omega | (simp only [World.size_alloc, drew_sz] at *; omega)), by have := HZ.out; omega⟩⟩
    case rest =>
      obtain ⟨nv, lo, hi, A7, c7, rfl, rfl, hS, hP⟩ := hcut
      have S1 := Lib.hid hS
      have P1 := Lib.hid hP
      clear hS hP
      obtain ⟨a, b, rfl⟩ := list_two (l := l) (by rw [PN.out]; rfl)
      have hkl : 0 < t.ks.length := by
        have h := PE.out
        cases hks : t.ks with
        | nil => rw [show partsAtT t [[0, 0], [1]] = none from by rw [partsAtT, partAt_out t 0 _ (by rw [hks]; simp)]] at h; cases h
        | cons q r => simp
      obtain ⟨g', o, Aq, cq, hA, hg, q0, q1, q2, hq⟩ := HT.out.kid 0 hkl
      have hd : (t.ks.headD zeroT).i = t.ks[0].i := by
        have : ∀ (l : List Tr) (h : 0 < l.length), (l.headD zeroT).i = l[0].i := fun l h => by
          cases l with
          | nil => simp at h
          | cons q r => simp
        exact this _ hkl
      have R0 := Lib.hid (show splitV 4 t = some ([a, (standT t.ks[0].i a b).getD (varT t.ks[0].i)], t.ks[0].i) by rw [← hd]; exact SV.out)
      obtain ⟨x, hx⟩ : ∃ x, x = t.ks[0].i := ⟨_, rfl⟩
      rw [← hx] at q1 R0
      subst hA
      have d1 := (S1.out.bel.cell (p := ⟨g', o + 0 * 3 + 1, none⟩) hg).trans q1
      rw [show o + 0 * 3 + 1 = o + 1 by omega] at d1
      clear q0 q1 q2 hq hd hx SV
      obtain ⟨x0, x1, x2⟩ := S1.out.xb.cells
      have pf := P1.out.pb.frozen 1
      obtain ⟨p0, p1⟩ := P1.out.pb.cells
      have S2 := Lib.hid (S1.out.setP P1.out.hnv 1 (.int .i64 x))
      have P2 := Lib.hid (show PL w (wc.setCell ⟨nv, 1, none⟩ (.int .i64 x)) nv lo hi [a, b] A7 c7 x from ⟨P1.out.pb.set1 x, P1.out.own.off P1.out.away _, P1.out.hlo, by simpa using P1.out.hhi, P1.out.away, P1.out.hnv⟩)
      go_upto_region 5 with fail
      generalize wc.setCell ⟨nv, 1, none⟩ (.int .i64 x) = W2 at S2 P2 ⊢
      clear x0 x1 x2 pf p0 p1 d1 S1 P1
      have hgnv0 := P2.out.away
      obtain ⟨g, Aa, ca, la, ha, hA7, hga, hgb, hgs, hfz, a0, a1, a2, hla, hha, hav, hao, hc7⟩ := P2.out.own.kidAv 0 (by show 0 < 2; omega)
      obtain ⟨g2, Ab, cb, lb, hb, hA7', _, _, _, _, b0, b1, b2, hlb, hhb, hbv, hbo, _⟩ := P2.out.own.kidAv 1 (by show 1 < 2; omega)
      subst hA7
      cases hA7'
      have hgnv' : nv ≠ g := by omega
      replace a0 : W2.cell? ⟨g, 0, none⟩ = some (.int .i64 a.k) := a0
      replace a1 : W2.cell? ⟨g, 1, none⟩ = some (.int .i64 a.i) := a1
      replace a2 : W2.cell? ⟨g, 2, none⟩ = some (.slice Aa a.ks.length ca) := a2
      replace b0 : W2.cell? ⟨g, 3, none⟩ = some (.int .i64 b.k) := b0
      replace b1 : W2.cell? ⟨g, 4, none⟩ = some (.int .i64 b.i) := b1
      replace b2 : W2.cell? ⟨g, 5, none⟩ = some (.slice Ab b.ks.length cb) := b2
      have fita := right_fit9 (PR.out a (by simp))
      have fitb := right_fit9 (PR.out b (by simp))
      have hhi := P2.out.hhi
      have STD := Lib.hid (fun (W : World) (h : Below W2.heap.size W2 W) => stand_any x W2 W2.heap.size a.sz a b Aa Ab ca cb lb hb W (Nat.le_refl _) h h.size (OwnT.isT a hao (by omega) fita) hbo (by omega) fitb)
      have SS2 := Lib.hid (show ∀ (W : World), Below W2.heap.size W2 W → (W.cell? ⟨nv, 0, none⟩ = some (.slice (some ⟨g, 0, none⟩) 2 c7) ∧ W.cell? ⟨nv, 1, none⟩ = some (.int .i64 x)) ∧ ((W.cell? ⟨g, 0, none⟩ = some (.int .i64 a.k) ∧ W.cell? ⟨g, 1, none⟩ = some (.int .i64 a.i) ∧ W.cell? ⟨g, 2, none⟩ = some (.slice Aa a.ks.length ca)) ∧ (W.cell? ⟨g, 3, none⟩ = some (.int .i64 b.k) ∧ W.cell? ⟨g, 4, none⟩ = some (.int .i64 b.i) ∧ W.cell? ⟨g, 5, none⟩ = some (.slice Ab b.ks.length cb))) from fun (W : World) (h : Below W2.heap.size W2 W) => And.intro (P2.out.keep h).pb.cells (And.intro (And.intro ((h.cell (p := ⟨g, 0, none⟩) hgs).trans a0) (And.intro ((h.cell (p := ⟨g, 1, none⟩) hgs).trans a1) ((h.cell (p := ⟨g, 2, none⟩) hgs).trans a2))) (And.intro ((h.cell (p := ⟨g, 3, none⟩) hgs).trans b0) (And.intro ((h.cell (p := ⟨g, 4, none⟩) hgs).trans b1) ((h.cell (p := ⟨g, 5, none⟩) hgs).trans b2)))))
      cases hs : standT x a b with
      | none =>
        rw [hs] at STD
        go_cut [6, 5] (fun v f wc => ∃ nt, v = .pointer (some ⟨nt, 0, none⟩) ∧ f = .bool false ∧ Below W2.heap.size W2 wc ∧ W2.heap.size ≤ nt ∧ Box3 wc nt (.int .i64 0) (.int .i64 0) (.slice none 0 0))
        case first =>
          go_region_held3 (fun w' => (w'.cell? ⟨nv, 0, none⟩ = some (.slice (some ⟨g, 0, none⟩) 2 c7) ∧ w'.cell? ⟨nv, 1, none⟩ = some (.int .i64 x)) ∧ ((w'.cell? ⟨g, 0, none⟩ = some (.int .i64 a.k) ∧ w'.cell? ⟨g, 1, none⟩ = some (.int .i64 a.i) ∧ w'.cell? ⟨g, 2, none⟩ = some (.slice Aa a.ks.length ca)) ∧ (w'.cell? ⟨g, 3, none⟩ = some (.int .i64 b.k) ∧ w'.cell? ⟨g, 4, none⟩ = some (.int .i64 b.i) ∧ w'.cell? ⟨g, 5, none⟩ = some (.slice Ab b.ks.length cb))))
            (first | (with_reducible exact SS2.out _ (Below.refl _ W2).drew) | (with_reducible exact SS2.out _ (alB W2 _)) | (with_reducible exact SS2.out _ (alB W2 _).drew) | (with_reducible exact SS2.out _ BB) | (with_reducible exact SS2.out _ (stepB BB (below_alloc _ _))) | (with_reducible exact SS2.out _ (below_set3 BB _ _ _ hnb)) | exact SS2.out _ (below_set3 BB _ _ _ hnb))
            (first
              | (go_at_call 84; (first | ((with_reducible refine (STD.out _ (Below.refl _ W2).drew).mono ?_); rintro e w7 ⟨hb7, rfl⟩; have BB := stepB (Below.refl _ W2).drew hb7) | ((with_reducible refine (STD.out _ (alB W2 (.cells #[.int .i64 0, .int .i64 0, .slice none 0 0] 24)).drew).mono ?_); rintro e w7 ⟨hb7, rfl⟩; have BB := stepB (alB W2 (.cells #[.int .i64 0, .int .i64 0, .slice none 0 0] 24)).drew hb7; have NB := boxD hb7; have hnb : W2.heap.size ≤ W2.heap.size := Nat.le_refl _)); have hs7 := BB.size; (try (obtain ⟨z0, z1, z2⟩ := NB.cells; have zf0 := NB.frozen 0; have zf1 := NB.frozen 1; have zf2 := NB.frozen 2)); clear hb7))
          all_goals go_wp2_with fail
          all_goals go_meet
          all_goals first
            | exact ⟨_, rfl, rfl, stepB BB (below_alloc _ _), hs7, Box3.new _ _ _ _⟩
            | exact ⟨_, rfl, rfl, below_set3 BB _ _ _ hnb, hnb, NB.setall _ _ _⟩
        case rest =>
          obtain ⟨nt, rfl, rfl, hbw, hnt, hNB⟩ := hcut
          have hnvt : nv < W2.heap.size := P2.out.pb.lt
          have q1 := (P2.out.pb.keep hbw hnvt).cells.2
          have tf0 := hNB.frozen 0
          have tf1 := hNB.frozen 1
          have tf2 := hNB.frozen 2
          obtain ⟨n0, n1, n2⟩ := hNB.cells
          have BW := Lib.hid (below_set3 hbw (.int .i64 1) (.int .i64 x) (.slice none 0 0) hnt)
          have NB := Lib.hid (hNB.setall (.int .i64 1) (.int .i64 x) (.slice none 0 0))
          clear hbw hNB
          go_upto_region 8 with fail
          generalize (((wc.setCell ⟨nt, 0, none⟩ (.int .i64 1)).setCell ⟨nt, 1, none⟩ (.int .i64 x)).setCell ⟨nt, 2, none⟩ (.slice none 0 0)) = W4 at BW NB ⊢
          clear q1 tf0 tf1 tf2 n0 n1 n2
          have R := Lib.hid (show splitV 4 t = some ([a, varT x], x) by rw [R0.out, hs]; rfl)
          have S4 := Lib.hid (S2.out.keep BW.out)
          have P4 := Lib.hid (P2.out.keep BW.out)
          obtain ⟨n0, n1, n2⟩ := NB.out.cells
          obtain ⟨p0, p1⟩ := P4.out.pb.cells
          have fz : ∀ o, W4.frozen? ⟨g, o, none⟩ = false := fun o => by
            have := hfz o
            unfold World.frozen? at this ⊢
            rwa [BW.out.block g hgs]
          have rf0 := fz 3
          have rf1 := fz 4
          have rf2 := fz 5
          have c0 := (BW.out.cell (p := ⟨g, 0, none⟩) hgs).trans a0
          have c1 := (BW.out.cell (p := ⟨g, 1, none⟩) hgs).trans a1
          have c2' := (BW.out.cell (p := ⟨g, 2, none⟩) hgs).trans a2
          have c3 := (BW.out.cell (p := ⟨g, 3, none⟩) hgs).trans b0
          have c4 := (BW.out.cell (p := ⟨g, 4, none⟩) hgs).trans b1
          have c5 := (BW.out.cell (p := ⟨g, 5, none⟩) hgs).trans b2
          have hgw := P2.out.hlo
          have hgnv := hgnv'
          have WS : ∀ k, k ≠ g → (((W4.setCell ⟨g, 3, none⟩ (.int .i64 1)).setCell ⟨g, 4, none⟩ (.int .i64 x)).setCell ⟨g, 5, none⟩ (.slice none 0 0)).heap[k]? = W4.heap[k]? := fun k hk => by
            rw [heap_setCell_other _ _ _ _ hk, heap_setCell_other _ _ _ _ hk, heap_setCell_other _ _ _ _ hk]
          have F5 := Lib.hid (show SB w (((W4.setCell ⟨g, 3, none⟩ (.int .i64 1)).setCell ⟨g, 4, none⟩ (.int .i64 x)).setCell ⟨g, 5, none⟩ (.slice none 0 0)) t (some ⟨g', o, none⟩) c ∧ BoxP (((W4.setCell ⟨g, 3, none⟩ (.int .i64 1)).setCell ⟨g, 4, none⟩ (.int .i64 x)).setCell ⟨g, 5, none⟩ (.slice none 0 0)) nv (some ⟨g, 0, none⟩) 2 c7 x from
            ⟨((S4.out.setP (by omega) 3 _).setP (by omega) 4 _).setP (by omega) 5 _, (WS nv hgnv).trans P4.out.pb⟩)
          have hnvt' := P2.out.pb.lt
          have E5 := Lib.hid (show SplitP w (splitV 4 t) (.returned (.tuple #[.agg #[.slice (some ⟨g, 0, none⟩) 2 c7, .int .i64 x], .bool true])) (((((W4.setCell ⟨g, 3, none⟩ (.int .i64 1)).setCell ⟨g, 4, none⟩ (.int .i64 x)).setCell ⟨g, 5, none⟩ (.slice none 0 0)).setCell ⟨w.heap.size + 1, 0, none⟩ (.slice (some ⟨g, 0, none⟩) 2 c7)).setCell ⟨w.heap.size + 1, 1, none⟩ (.int .i64 x)) from by
            rw [R.out]
            exact end4 (v := varT x) S4.out (by omega) (Nat.lt_of_lt_of_le hgs BW.out.size) hc7 (OwnT.same a (SameIn.of_below BW.out (by omega)) hao) (by omega) (Nat.le_trans (by omega) BW.out.size) hav fita (fun W' _ _ => isT_var W' _ x) c0 c1 c2' c3 c4 c5)
          go_upto_region 9 with fail
          generalize (((W4.setCell ⟨g, 3, none⟩ (.int .i64 1)).setCell ⟨g, 4, none⟩ (.int .i64 x)).setCell ⟨g, 5, none⟩ (.slice none 0 0)) = W5 at F5 E5 ⊢
          clear n0 n1 n2 p0 p1 fz rf0 rf1 rf2 c0 c1 c2' c3 c4 c5 WS BW NB S4 P4 hfz a0 a1 a2 b0 b1 b2
          obtain ⟨p0, p1⟩ := F5.out.2.cells
          obtain ⟨r0, r1⟩ := F5.out.1.rb.cells
          have f0 := F5.out.1.rb.frozen 0
          have f1 := F5.out.1.rb.frozen 1
          go_wp2_with fail
          obtain ⟨z0, z1⟩ := ((F5.out.1.rb.set0 (some ⟨g, 0, none⟩) 2 c7).set1 x).cells
          exact bodyPost_ret (v := .tuple #[.agg #[.slice (some ⟨g, 0, none⟩) 2 c7, .int .i64 x], .bool true]) (by simp [results, Tryz.results42, go_sem, z0, z1]) rfl E5.out
      | some u =>
        rw [hs] at STD
        go_cut [6, 5] (fun v f wc => ∃ nt A2 c2 l1 h1, v = .pointer (some ⟨nt, 0, none⟩) ∧ f = .bool true ∧ Below W2.heap.size W2 wc ∧ W2.heap.size ≤ nt ∧ Box3 wc nt (.int .i64 u.k) (.int .i64 u.i) (.slice A2 u.ks.length c2) ∧ lb ≤ l1 ∧ h1 ≤ hb ∧ OwnT W2 l1 h1 u A2 c2)
        case first =>
          go_region_held3 (fun w' => (w'.cell? ⟨nv, 0, none⟩ = some (.slice (some ⟨g, 0, none⟩) 2 c7) ∧ w'.cell? ⟨nv, 1, none⟩ = some (.int .i64 x)) ∧ ((w'.cell? ⟨g, 0, none⟩ = some (.int .i64 a.k) ∧ w'.cell? ⟨g, 1, none⟩ = some (.int .i64 a.i) ∧ w'.cell? ⟨g, 2, none⟩ = some (.slice Aa a.ks.length ca)) ∧ (w'.cell? ⟨g, 3, none⟩ = some (.int .i64 b.k) ∧ w'.cell? ⟨g, 4, none⟩ = some (.int .i64 b.i) ∧ w'.cell? ⟨g, 5, none⟩ = some (.slice Ab b.ks.length cb))))
            (first | (with_reducible exact SS2.out _ (Below.refl _ W2).drew) | (with_reducible exact SS2.out _ (alB W2 _)) | (with_reducible exact SS2.out _ (alB W2 _).drew) | (with_reducible exact SS2.out _ BB) | (with_reducible exact SS2.out _ (stepB BB (below_alloc _ _))) | (with_reducible exact SS2.out _ (below_set3 BB _ _ _ hnb)) | exact SS2.out _ (below_set3 BB _ _ _ hnb))
            (first
              | (go_at_call 84; (first | ((with_reducible refine (STD.out _ (Below.refl _ W2).drew).mono ?_); rintro e w7 ⟨hb7, A2, c2, l1, h1, rfl, g1, g2, g3⟩; have G := Lib.hid (And.intro g1 (And.intro g2 g3)); clear g1 g2 g3; have BB := stepB (Below.refl _ W2).drew hb7) | ((with_reducible refine (STD.out _ (alB W2 (.cells #[.int .i64 0, .int .i64 0, .slice none 0 0] 24)).drew).mono ?_); rintro e w7 ⟨hb7, A2, c2, l1, h1, rfl, g1, g2, g3⟩; have G := Lib.hid (And.intro g1 (And.intro g2 g3)); clear g1 g2 g3; have BB := stepB (alB W2 (.cells #[.int .i64 0, .int .i64 0, .slice none 0 0] 24)).drew hb7; have NB := boxD hb7; have hnb : W2.heap.size ≤ W2.heap.size := Nat.le_refl _)); have hs7 := BB.size; (try (obtain ⟨z0, z1, z2⟩ := NB.cells; have zf0 := NB.frozen 0; have zf1 := NB.frozen 1; have zf2 := NB.frozen 2)); clear hb7))
          all_goals go_wp2_with fail
          all_goals go_meet
          all_goals first
            | exact ⟨_, A2, c2, l1, h1, rfl, rfl, stepB BB (below_alloc _ _), hs7, Box3.new _ _ _ _, G.out⟩
            | exact ⟨_, A2, c2, l1, h1, rfl, rfl, below_set3 BB _ _ _ hnb, hnb, NB.setall _ _ _, G.out⟩
        case rest =>
          obtain ⟨nt, A2, c2, l1, h1, rfl, rfl, hbw, hnt, hNB, g1, g2, g3⟩ := hcut
          have hnvt : nv < W2.heap.size := P2.out.pb.lt
          have BW := Lib.hid hbw
          have NB := Lib.hid hNB
          have G := Lib.hid (And.intro g1 (And.intro g2 g3))
          clear hbw hNB g1 g2 g3
          go_upto_region 8 with fail
          obtain ⟨W4, rfl⟩ : ∃ W4, W4 = wc := ⟨_, rfl⟩
          have R := Lib.hid (show splitV 4 t = some ([a, u], x) by rw [R0.out, hs]; rfl)
          have S4 := Lib.hid (S2.out.keep BW.out)
          have P4 := Lib.hid (P2.out.keep BW.out)
          obtain ⟨n0, n1, n2⟩ := NB.out.cells
          obtain ⟨p0, p1⟩ := P4.out.pb.cells
          have fz : ∀ o, W4.frozen? ⟨g, o, none⟩ = false := fun o => by
            have := hfz o
            unfold World.frozen? at this ⊢
            rwa [BW.out.block g hgs]
          have rf0 := fz 3
          have rf1 := fz 4
          have rf2 := fz 5
          have c0 := (BW.out.cell (p := ⟨g, 0, none⟩) hgs).trans a0
          have c1 := (BW.out.cell (p := ⟨g, 1, none⟩) hgs).trans a1
          have c2' := (BW.out.cell (p := ⟨g, 2, none⟩) hgs).trans a2
          have c3 := (BW.out.cell (p := ⟨g, 3, none⟩) hgs).trans b0
          have c4 := (BW.out.cell (p := ⟨g, 4, none⟩) hgs).trans b1
          have c5 := (BW.out.cell (p := ⟨g, 5, none⟩) hgs).trans b2
          have hgw := P2.out.hlo
          have hgnv := hgnv'
          have WS : ∀ k, k ≠ g → (((W4.setCell ⟨g, 3, none⟩ (.int .i64 u.k)).setCell ⟨g, 4, none⟩ (.int .i64 u.i)).setCell ⟨g, 5, none⟩ (.slice A2 u.ks.length c2)).heap[k]? = W4.heap[k]? := fun k hk => by
            rw [heap_setCell_other _ _ _ _ hk, heap_setCell_other _ _ _ _ hk, heap_setCell_other _ _ _ _ hk]
          have F5 := Lib.hid (show SB w (((W4.setCell ⟨g, 3, none⟩ (.int .i64 u.k)).setCell ⟨g, 4, none⟩ (.int .i64 u.i)).setCell ⟨g, 5, none⟩ (.slice A2 u.ks.length c2)) t (some ⟨g', o, none⟩) c ∧ BoxP (((W4.setCell ⟨g, 3, none⟩ (.int .i64 u.k)).setCell ⟨g, 4, none⟩ (.int .i64 u.i)).setCell ⟨g, 5, none⟩ (.slice A2 u.ks.length c2)) nv (some ⟨g, 0, none⟩) 2 c7 x from
            ⟨((S4.out.setP (by omega) 3 _).setP (by omega) 4 _).setP (by omega) 5 _, (WS nv hgnv).trans P4.out.pb⟩)
          have hnvt' := P2.out.pb.lt
          have E5 := Lib.hid (show SplitP w (splitV 4 t) (.returned (.tuple #[.agg #[.slice (some ⟨g, 0, none⟩) 2 c7, .int .i64 x], .bool true])) (((((W4.setCell ⟨g, 3, none⟩ (.int .i64 u.k)).setCell ⟨g, 4, none⟩ (.int .i64 u.i)).setCell ⟨g, 5, none⟩ (.slice A2 u.ks.length c2)).setCell ⟨w.heap.size + 1, 0, none⟩ (.slice (some ⟨g, 0, none⟩) 2 c7)).setCell ⟨w.heap.size + 1, 1, none⟩ (.int .i64 x)) from by
            rw [R.out]
            exact end4 (v := u) S4.out (by omega) (Nat.lt_of_lt_of_le hgs BW.out.size) hc7 (OwnT.same a (SameIn.of_below BW.out (by omega)) hao) (by omega) (Nat.le_trans (by omega) BW.out.size) hav fita (FrT.own (OwnT.same u (fun k k1 k2 => (WS k (by have := G.out.1; have := G.out.2.1; omega)).trans (BW.out.block k (by have := G.out.2.1; omega))) G.out.2.2) (by have := G.out.2.1; have := BW.out.size; simp only [World.size_setCell]; omega) (fun k hk => by have := G.out.1; omega) (right_fit9 (stand_right x a (PR.out b (by simp)) hs))) c0 c1 c2' c3 c4 c5)
          go_upto_region 9 with fail
          generalize (((W4.setCell ⟨g, 3, none⟩ (.int .i64 u.k)).setCell ⟨g, 4, none⟩ (.int .i64 u.i)).setCell ⟨g, 5, none⟩ (.slice A2 u.ks.length c2)) = W5 at F5 E5 ⊢
          clear n0 n1 n2 p0 p1 fz rf0 rf1 rf2 c0 c1 c2' c3 c4 c5 WS BW NB S4 P4 hfz a0 a1 a2 b0 b1 b2
          obtain ⟨p0, p1⟩ := F5.out.2.cells
          obtain ⟨r0, r1⟩ := F5.out.1.rb.cells
          have f0 := F5.out.1.rb.frozen 0
          have f1 := F5.out.1.rb.frozen 1
          go_wp2_with fail
          obtain ⟨z0, z1⟩ := ((F5.out.1.rb.set0 (some ⟨g, 0, none⟩) 2 c7).set1 x).cells
          exact bodyPost_ret (v := .tuple #[.agg #[.slice (some ⟨g, 0, none⟩) 2 c7, .int .i64 x], .bool true]) (by simp [results, Tryz.results42, go_sem, z0, z1]) rfl E5.out
end Go.Proofs.YtgnfbhemkombaaaGreat
namespace Go.Proofs.YtgnfbhemkombaaaGreat
open Go.RowKit
set_option linter.unusedVariables false
set_option linter.unusedSimpArgs false
/-- the contract of the function that takes a formula apart -/
theorem splitP_of_parts {w w' : World} {t : Tr} {ps : List (List Int)} {e : Ending} (hr : rightN t = 0) (h4 : ps.length ≤ 4) (h : PartsP w ((partsAtT t ps).map fun l => (l, 0)) e w') : SplitP w ((partsAtT t ps).map fun l => (l, 0)) e w' := by
  obtain ⟨hb, h⟩ := h
  refine ⟨hb, ?_⟩
  cases hp : partsAtT t ps with
  | none => rw [hp] at h; exact h
  | some l =>
    rw [hp] at h
    obtain ⟨A, c, he, ho⟩ := h
    exact ⟨A, c, he, FrT.own ho (Nat.le_refl _) (fun k hk => hk) (fit_list (by rw [partsAtT_len hp]; exact h4) fun q hq => right_fit9 (partsAtT_right hr hp q hq))⟩
theorem splitV_other {k : Nat} (h4 : k ≠ 4) (h5 : k ≠ 5) (t : Tr) : splitV k t = (partsAtT t (pathsL k)).map fun l => (l, 0) := by
  unfold splitV
  cases partsAtT t (pathsL k) with
  | none => rfl
  | some l => simp [h4, h5]
/-- the boxes of partsOf -/
structure PB3 (w W : World) (x0 x1 x2 x3 x4 x5 : Value) (t : Tr) (A : Option Addr) (c : Nat) : Prop where
  sb : Box6 W w.heap.size x0 x1 x2 x3 x4 x5
  xb : Box3 W (w.heap.size + 1) (.int .i64 t.k) (.int .i64 t.i) (.slice A t.ks.length c)
  rb : BoxP W (w.heap.size + 2) none 0 0 0
  bel : Below w.heap.size w W
theorem PB3.keep {w W W' : World} {x0 x1 x2 x3 x4 x5 : Value} {t : Tr} {A : Option Addr} {c : Nat} (h : PB3 w W x0 x1 x2 x3 x4 x5 t A c) (hb : Below W.heap.size W W') : PB3 w W' x0 x1 x2 x3 x4 x5 t A c :=
  ⟨h.sb.keep hb h.sb.lt, h.xb.keep hb h.xb.lt, h.rb.keep hb h.rb.lt, bl_trans h.bel hb⟩
theorem PB3.start (w : World) (x0 x1 x2 x3 x4 x5 : Value) (t : Tr) (A : Option Addr) (c : Nat) :
    PB3 w (((w.alloc (.cells #[x0, x1, x2, x3, x4, x5] 50)).alloc (.cells #[.int .i64 t.k, .int .i64 t.i, .slice A t.ks.length c] 24)).alloc (.cells #[.slice none 0 0, .int .i64 0] 32)) x0 x1 x2 x3 x4 x5 t A c := by
  refine ⟨?_, ?_, ?_, bl_trans (bl_trans (alB _ _) (alB _ _)) (alB _ _)⟩
  · exact ((Box6.new w _ _ _ _ _ _).keep (alB _ _) (by simp)).keep (alB _ _) (by simp; omega)
  · have h := Box3.new (w.alloc (.cells #[x0, x1, x2, x3, x4, x5] 50)) (.int .i64 t.k) (.int .i64 t.i) (.slice A t.ks.length c)
    exact (by simpa using h : Box3 _ (w.heap.size + 1) _ _ _).keep (alB _ _) (by simp)
  · have h := BoxP.new ((w.alloc (.cells #[x0, x1, x2, x3, x4, x5] 50)).alloc (.cells #[.int .i64 t.k, .int .i64 t.i, .slice A t.ks.length c] 24)) none 0 0 0
    simpa using h
theorem splitP_none {w wr : World} {o : Option (List Tr × Int)} (h : o = none) (hb : Below w.heap.size w wr) {b : Nat} (hle : w.heap.size ≤ b) (u v : Value) : SplitP w o (.returned (.tuple #[.agg #[.slice none 0 0, .int .i64 0], .bool false])) ((wr.setCell ⟨b, 0, none⟩ u).setCell ⟨b, 1, none⟩ v) := by
  subst h
  exact ⟨(hb.setCell (p := ⟨b, 0, none⟩) hle _).setCell (p := ⟨b, 1, none⟩) hle _, rfl⟩
theorem paths_small (n : Nat) (h : n = 1 ∨ n = 2 ∨ n = 3 ∨ n = 6 ∨ n = 7) : (pathsL n).length ≤ 4 ∧ ∀ j (h : j < (pathsL n).length), (pathsL n)[j].length ≤ 3 := by
  have h3 : ∀ z ∈ pathsL n, z.length ≤ 3 := by rcases h with rfl | rfl | rfl | rfl | rfl <;> decide
  have h4 : (pathsL n).length ≤ 4 := by rcases h with rfl | rfl | rfl | rfl | rfl <;> decide
  exact ⟨h4, fun j hj => h3 _ (List.getElem_mem hj)⟩
theorem FrT.weak' {X Y : Nat → Prop} {W : World} {t : Tr} {A : Option Addr} {c : Nat} (h : FrT X W t A c) (hs : ∀ k, Y k → X k) : FrT Y W t A c := fun W' h1 h2 => h W' (fun k hk hn => h1 k hk (fun hy => hn (hs k hy))) h2
theorem splitP_some {w wr : World} {o : Option (List Tr × Int)} {l : List Tr} {x : Int} {A : Option Addr} {c B b : Nat} (h : o = some (l, x)) (hb : Below w.heap.size w wr) (hle : w.heap.size ≤ b) (hB : b < B) (hF : FrT (fun k => k < B) wr (.node 0 0 l) A c) (u v : Value) :
    SplitP w o (.returned (.tuple #[.agg #[.slice A l.length c, .int .i64 x], .bool true])) ((wr.setCell ⟨b, 0, none⟩ u).setCell ⟨b, 1, none⟩ v) := by
  subst h
  refine ⟨(hb.setCell (p := ⟨b, 0, none⟩) hle _).setCell (p := ⟨b, 1, none⟩) hle _, A, c, rfl, FrT.weak' (X := fun k => k < B) (hF.move (fun k hk hn => ?_) (by simp)) (fun k hk => Nat.lt_of_lt_of_le hk (by omega))⟩
  have hk1 : k ≠ b := fun e => hn (by show k < B; omega)
  rw [heap_setCell_other _ _ _ _ hk1, heap_setCell_other _ _ _ _ hk1]
set_option maxHeartbeats 20000000 in
set_option maxRecDepth 100000 in
theorem partsOf_any (n : Nat) (h1 : 1 ≤ n) (h7 : n ≤ 7) (S : Option Addr) (sc : Nat) (nm : Bool) (vf lo : Nat) (vc : Array Value) (t : Tr) (A : Option Addr) (c : Nat) (w : World) (hS : SplitAt w lo w.heap.size n vf vc) (ht : IsT w w.heap.size t A c) (hr : rightN t = 0) :
    Calls Tryz.prog 18 #[.agg #[.int .i64 (n : Int), .slice S sc sc, .bool nm, .func (.func (fillF n)) #[] #[], .func (.func (sideF n)) #[] #[], .func (.func vf) #[] vc], .agg #[.int .i64 t.k, .int .i64 t.i, .slice A t.ks.length c]] w (SplitP w (partsV n t)) := by
  have S0 := Lib.hid (PB3.start w (.int .i64 (n : Int)) (.slice S sc sc) (.bool nm) (.func (.func (fillF n)) #[] #[]) (.func (.func (sideF n)) #[] #[]) (.func (.func vf) #[] vc) t A c)
  have HT := Lib.hid ht
  have HR := Lib.hid hr
  have HN := Lib.hid (And.intro h1 h7)
  have PV := Lib.hid (show partsV n t = (match splitV n t with | none => none | some p => if fitsV n t p.1 p.2 = true then some p else none) from rfl)
  have SL := Lib.hid (fun (p : List Tr × Int) (h : splitV n t = some p) => split_len h1 h7 h)
  have SZ := Lib.hid (fun (p : List Tr × Int) (h : splitV n t = some p) => split_sz h1 h7 hr h)
  have SK := Lib.hid (fun (l : List Tr) (x : Int) (A : Option Addr) (c : Nat) (hn : l.length = (sortsL n).length) (hr : ∀ q ∈ l, rightN q = 0) => sideK_any n h1 h7 l hn hr A c x)
  have FK := Lib.hid (fun (l : List Tr) (x : Int) (A : Option Addr) (c : Nat) (hn : l.length = (sortsL n).length) (hs : ∀ q ∈ l, q.sz ≤ 1000) => fillK_any n h1 h7 l hn hs A c x)
  have FR := Lib.hid (fun (l : List Tr) (x : Int) (hm : fillV n l x = (t, 0)) (hl : l.length = (sortsL n).length) => fill_right h1 h7 hr hm hl)
  -- the function that splits, as it stands in the row
  have SP : ∀ (W : World), Below w.heap.size w W → Calls Tryz.prog vf (#[.agg #[.int .i64 t.k, .int .i64 t.i, .slice A t.ks.length c]] ++ vc) W (SplitP W (splitV n t)) := by
    intro W hW
    have tW : IsT W W.heap.size t A c := ht.keep hW hW.size
    rcases hS with ⟨e, e2, e3⟩ | ⟨e, e2, e3⟩ | ⟨e4, e5, e2, p, e3, hp⟩
    · subst e e2 e3; exact split4_any t A c W tW hr
    · subst e e2 e3; exact split5_any t A c W tW hr
    · subst e2 e3
      rw [splitV_other e4 e5]
      have hlen : (pathsL n).length ≤ 4 ∧ ∀ j (h : j < (pathsL n).length), (pathsL n)[j].length ≤ 3 := by
        exact paths_small n (by omega)
      exact (partsAt1_any t A c p lo (pathsL n) W tW hr (hp.keep hW hW.size) hlen.1 hlen.2).mono fun e w' h => splitP_of_parts hr hlen.1 h
  have HP := Lib.hid (show (fillF n = 35 ∧ sideF n = 36 ∧ vf = 77 ∧ ∃ p, vc = #[.pointer (some ⟨p, 0, none⟩)]) ∨ (fillF n = 38 ∧ sideF n = 36 ∧ vf = 77 ∧ ∃ p, vc = #[.pointer (some ⟨p, 0, none⟩)]) ∨ (fillF n = 39 ∧ sideF n = 36 ∧ vf = 77 ∧ ∃ p, vc = #[.pointer (some ⟨p, 0, none⟩)]) ∨ (fillF n = 40 ∧ sideF n = 41 ∧ vf = 42 ∧ ∃ p : Nat, vc = #[]) ∨ (fillF n = 43 ∧ sideF n = 44 ∧ vf = 45 ∧ ∃ p : Nat, vc = #[]) ∨ (fillF n = 46 ∧ sideF n = 36 ∧ vf = 77 ∧ ∃ p, vc = #[.pointer (some ⟨p, 0, none⟩)]) ∨ (fillF n = 47 ∧ sideF n = 48 ∧ vf = 77 ∧ ∃ p, vc = #[.pointer (some ⟨p, 0, none⟩)]) by
    have hk : n = 1 ∨ n = 2 ∨ n = 3 ∨ n = 4 ∨ n = 5 ∨ n = 6 ∨ n = 7 := by omega
    rcases hS with ⟨e, e2, e3⟩ | ⟨e, e2, e3⟩ | ⟨e4, e5, e2, p, e3, hp⟩
    · subst e; exact .inr (.inr (.inr (.inl ⟨rfl, rfl, e2, 0, e3⟩)))
    · subst e; exact .inr (.inr (.inr (.inr (.inl ⟨rfl, rfl, e2, 0, e3⟩))))
    · rcases hk with rfl | rfl | rfl | rfl | rfl | rfl | rfl
      · exact .inl ⟨rfl, rfl, e2, p, e3⟩
      · exact .inr (.inl ⟨rfl, rfl, e2, p, e3⟩)
      · exact .inr (.inr (.inl ⟨rfl, rfl, e2, p, e3⟩))
      · exact absurd rfl e4
      · exact absurd rfl e5
      · exact .inr (.inr (.inr (.inr (.inr (.inl ⟨rfl, rfl, e2, p, e3⟩)))))
      · exact .inr (.inr (.inr (.inr (.inr (.inr ⟨rfl, rfl, e2, p, e3⟩))))))
  have HSP := Lib.hid SP
  obtain ⟨ff, hff⟩ : ∃ ff, ff = fillF n := ⟨_, rfl⟩
  obtain ⟨sf, hsf⟩ : ∃ sf, sf = sideF n := ⟨_, rfl⟩
  rw [← hff, ← hsf] at HP S0
  rw [← hff] at FK ⊢
  rw [← hsf] at SK ⊢
  clear h1 h7 hS ht hr SP hff hsf
  have hp := HP.out
  clear HP
  rcases hp with ⟨rfl, rfl, rfl, pp, rfl⟩ | ⟨rfl, rfl, rfl, pp, rfl⟩ | ⟨rfl, rfl, rfl, pp, rfl⟩ | ⟨rfl, rfl, rfl, pp, rfl⟩ | ⟨rfl, rfl, rfl, pp, rfl⟩ | ⟨rfl, rfl, rfl, pp, rfl⟩ | ⟨rfl, rfl, rfl, pp, rfl⟩
  all_goals
    obtain ⟨y0, y1, y2, y3, y4, y5⟩ := S0.out.sb.cells
    obtain ⟨x0, x1, x2⟩ := S0.out.xb.cells
    go_enter Tryz.func18, Tryz.ntmps18
    go_wp2_with fail
    refine (HSP.out _ S0.out.bel).mono ?_
    rintro e w1 ⟨hb1, hres⟩
    have S1 := Lib.hid (S0.out.keep hb1)
    cases hs : splitV n t with
    | none =>
      rw [hs] at hres
      obtain rfl := hres
      have R := Lib.hid (show partsV n t = none by rw [PV.out, hs])
      have S2 := Lib.hid (S1.out.keep (alB w1 (.cells #[.slice none 0 0, .int .i64 0] 32)))
      obtain ⟨r0, r1⟩ := S2.out.rb.cells
      have f0 := S2.out.rb.frozen 0
      have f1 := S2.out.rb.frozen 1
      clear hb1 y0 y1 y2 y3 y4 y5 x0 x1 x2 hs
      go_wp2_with fail
      obtain ⟨z0, z1⟩ := ((S2.out.rb.set0 none 0 0).set1 0).cells
      exact bodyPost_ret (v := .tuple #[.agg #[.slice none 0 0, .int .i64 0], .bool false]) (by simp [results, Tryz.results18, go_sem, z0, z1]) rfl (splitP_none R.out S2.out.bel (by omega) _ _)
    | some p =>
      rw [hs] at hres
      obtain ⟨A7, c7, rfl, hF⟩ := hres
      obtain ⟨l, x⟩ := p
      have PV2 := Lib.hid (show partsV n t = if fitsV n t l x = true then some (l, x) else none by rw [PV.out, hs])
      have LN := Lib.hid (SL.out _ hs).1
      have LZ := Lib.hid (SZ.out _ hs)
      have S2 := Lib.hid (S1.out.keep (alB w1 (.cells #[.slice A7 l.length c7, .int .i64 x] 32)))
      have Q2 := Lib.hid (BoxP.new w1 A7 l.length c7 x)
      have F2 := Lib.hid (hF.keep (alB w1 (.cells #[.slice A7 l.length c7, .int .i64 x] 32)))
      have HB1 := Lib.hid hb1.size
      clear hF hb1 y0 y1 y2 y3 y4 y5 x0 x1 x2 hs PV S1
      obtain ⟨y0, y1, y2, y3, y4, y5⟩ := S2.out.sb.cells
      obtain ⟨q0, q1⟩ := Q2.out.cells
      go_wp2_with fail
      refine (FK.out l x A7 c7 LN.out (fun q hq => LZ.out q hq) _ (by exact F2.out.isT)).mono ?_
      rintro e w3 ⟨A3, c3, rfl, ht3, hb3⟩
      have PV3 := Lib.hid (show partsV n t = if (decide ((fillV n l x).2 = 0) && (sameB (fillV n l x).1 t && sideV n l x)) = true then some (l, x) else none from PV2.out)
      have FR3 := Lib.hid (fun (h1 : (fillV n l x).1 = t) (h2 : (fillV n l x).2 = 0) => FR.out l x (Prod.ext h1 h2) LN.out)
      obtain ⟨m, hm⟩ : ∃ m, m = fillV n l x := ⟨_, rfl⟩
      rw [← hm] at ht3 PV3 FR3 ⊢
      clear hm PV2 FR FK LZ
      have a3 := alB w3 (.cells #[.int .i64 m.1.k, .int .i64 m.1.i, .slice A3 m.1.ks.length c3] 24)
      have S3 := Lib.hid ((S2.out.keep hb3).keep a3)
      have Q3 := Lib.hid ((Q2.out.keep hb3 Q2.out.lt).keep a3 (by have := (Q2.out.keep hb3 Q2.out.lt).lt; exact this))
      have F3 := Lib.hid ((F2.out.keep hb3).keep a3)
      have X3 := Lib.hid (Box3.new w3 (.int .i64 m.1.k) (.int .i64 m.1.i) (.slice A3 m.1.ks.length c3))
      have T3 := Lib.hid (ht3.keep a3 a3.size)
      clear hb3 a3 ht3 q0 q1 S2 Q2 F2 y0 y1 y2 y3 y4 y5
      obtain ⟨r0, r1⟩ := S3.out.rb.cells
      have f0 := S3.out.rb.frozen 0
      have f1 := S3.out.rb.frozen 1
      obtain ⟨x0, x1, x2⟩ := S3.out.xb.cells
      obtain ⟨v0, v1, v2⟩ := X3.out.cells
      by_cases hg : m.2 = 0
      · have hg0 : ((m.2 : Int) != 0) = false := by rw [hg]; rfl
        go_wp2_with fail
        refine (same_any m.1 t A3 A c3 c _ (by exact T3.out) (by exact HT.out.keep S3.out.bel S3.out.bel.size)).mono ?_
        rintro e w4 ⟨rfl, hb4⟩
        have S4 := Lib.hid (S3.out.keep hb4)
        have Q4 := Lib.hid (Q3.out.keep hb4 Q3.out.lt)
        have F4 := Lib.hid (F3.out.keep hb4)
        clear hb4 x0 x1 x2 r0 r1 f0 f1 v0 v1 v2 S3 Q3 F3 X3 T3
        obtain ⟨r0, r1⟩ := S4.out.rb.cells
        have f0 := S4.out.rb.frozen 0
        have f1 := S4.out.rb.frozen 1
        obtain ⟨y0, y1, y2, y3, y4, y5⟩ := S4.out.sb.cells
        obtain ⟨q0, q1⟩ := Q4.out.cells
        cases hl : sameB m.1 t with
        | true =>
          have he : m.1 = t := (likeB_iff9 _ _).1 (by rw [sameB_eq] at hl; simp only [Bool.and_eq_true] at hl; exact hl.2)
          have hr := FR3.out he hg
          go_wp2_with fail
          refine (SK.out l x A7 c7 LN.out hr _ (by exact F4.out.isT)).mono ?_
          rintro e w5 ⟨rfl, hb5⟩
          have S5 := Lib.hid (S4.out.keep hb5)
          have Q5 := Lib.hid (Q4.out.keep hb5 Q4.out.lt)
          have F5 := Lib.hid (F4.out.keep hb5)
          clear hb5 r0 r1 f0 f1 q0 q1 y0 y1 y2 y3 y4 y5 S4 Q4 F4
          obtain ⟨r0, r1⟩ := S5.out.rb.cells
          have f0 := S5.out.rb.frozen 0
          have f1 := S5.out.rb.frozen 1
          obtain ⟨q0, q1⟩ := Q5.out.cells
          cases hv : sideV n l x with
          | true =>
            have R := Lib.hid (show partsV n t = some (l, x) by rw [PV3.out, hg, hl, hv]; rfl)
            go_wp2_with fail
            obtain ⟨z0, z1⟩ := ((S5.out.rb.set0 A7 l.length c7).set1 x).cells
            exact bodyPost_ret (v := .tuple #[.agg #[.slice A7 l.length c7, .int .i64 x], .bool true]) (by simp [results, Tryz.results18, go_sem, z0, z1]) rfl (splitP_some R.out S5.out.bel (by omega) (by simp) F5.out _ _)
          | false =>
            have R := Lib.hid (show partsV n t = none by rw [PV3.out, hg, hl, hv]; rfl)
            go_wp2_with fail
            obtain ⟨z0, z1⟩ := ((S5.out.rb.set0 none 0 0).set1 0).cells
            exact bodyPost_ret (v := .tuple #[.agg #[.slice none 0 0, .int .i64 0], .bool false]) (by simp [results, Tryz.results18, go_sem, z0, z1]) rfl (splitP_none R.out S5.out.bel (by omega) _ _)
        | false =>
          have R := Lib.hid (show partsV n t = none by rw [PV3.out, hg, hl]; rfl)
          go_wp2_with fail
          obtain ⟨z0, z1⟩ := ((S4.out.rb.set0 none 0 0).set1 0).cells
          exact bodyPost_ret (v := .tuple #[.agg #[.slice none 0 0, .int .i64 0], .bool false]) (by simp [results, Tryz.results18, go_sem, z0, z1]) rfl (splitP_none R.out S4.out.bel (by omega) _ _)
      · have hg0 : ((m.2 : Int) != 0) = true := by rw [bne_iff_ne]; omega
        have R := Lib.hid (show partsV n t = none by rw [PV3.out, decide_eq_false hg]; rfl)
        go_wp2_with fail
        obtain ⟨z0, z1⟩ := ((S3.out.rb.set0 none 0 0).set1 0).cells
        exact bodyPost_ret (v := .tuple #[.agg #[.slice none 0 0, .int .i64 0], .bool false]) (by simp [results, Tryz.results18, go_sem, z0, z1]) rfl (splitP_none R.out S3.out.bel (by omega) _ _)
end Go.Proofs.YtgnfbhemkombaaaGreat
namespace Go.Proofs.YtgnfbhemkombaaaGreat
open Go.RowKit
set_option linter.unusedVariables false
set_option linter.unusedSimpArgs false
set_option maxHeartbeats 8000000 in
set_option maxRecDepth 100000 in
theorem sparts_any (k : Int) (t : Tr) (A : Option Addr) (c : Nat) (w : World) (ht : IsT w w.heap.size t A c) :
    Calls Tryz.prog 12 #[.int .i64 k, .agg #[.int .i64 t.k, .int .i64 t.i, .slice A t.ks.length c]] w (PartsI w (partsR (partsV k.toNat t) k t)) := by
  have S0 := Lib.hid (SB.start w t A c)
  have HT := Lib.hid ht
  clear ht
  go_enter Tryz.func12, Tryz.ntmps12
  go_wp2_with fail
  refine (numbered_any k _).mono ?_
  rintro e w1 ⟨hb1, hcase⟩
  have S1 := Lib.hid (S0.out.keep hb1)
  clear hb1 S0
  rcases hcase with ⟨nk, rfl⟩ | ⟨n, S, vf, vc, hkn, h1, h7, hS, rfl⟩
  · have R := Lib.hid (show partsR (partsV k.toNat t) k t = (none, 70) from if_pos nk)
    have S2 := Lib.hid (S1.out.keep (alB w1 (.cells #[.int .i64 0, .slice none 0 0, .bool false, .nilFunc, .nilFunc, .nilFunc] 50)))
    obtain ⟨r0, r1⟩ := S2.out.rb.cells
    have f0 := S2.out.rb.frozen 0
    have f1 := S2.out.rb.frozen 1
    clear nk
    go_wp2_with fail
    obtain ⟨z0, z1⟩ := ((S2.out.rb.set0 none 0 0).set1 0).cells
    exact bodyPost_ret (v := .tuple #[.agg #[.slice none 0 0, .int .i64 0], .int .i64 70]) (by simp [results, Tryz.results12, go_sem, z0, z1]) rfl (partsI_none R.out S2.out.bel (Nat.le_succ _) _ _)
  · have HK := Lib.hid (And.intro h1 h7)
    subst hkn
    have R0 := Lib.hid (show partsR (partsV (n : Int).toNat t) (n : Int) t = if wantFN t ≠ 0 then (none, wantFN t) else match partsV n t with | none => (none, 73) | some q => (some q, 0) from by
      rw [show (n : Int).toNat = n by omega]; exact if_neg (fun h => h ⟨by omega, by omega⟩))
    obtain ⟨lo, hlo⟩ : ∃ lo, lo = ((w.alloc (.cells #[.int .i64 t.k, .int .i64 t.i, .slice A t.ks.length c] 24)).alloc (.cells #[.slice none 0 0, .int .i64 0] 32)).heap.size := ⟨_, rfl⟩
    rw [← hlo] at hS
    clear hlo
    have HS := Lib.hid hS.2
    obtain ⟨sc, hsc⟩ : ∃ sc, sc = (sortsL n).length := ⟨_, rfl⟩
    obtain ⟨nm, hnm⟩ : ∃ nm, nm = decide (n = 4 ∨ n = 5) := ⟨_, rfl⟩
    rw [← hsc, ← hnm]
    clear hsc hnm hS h1 h7
    have R2 := Lib.hid (Box6.new w1 (.int .i64 (n : Int)) (.slice S sc sc) (.bool nm) (.func (.func (fillF n)) #[] #[]) (.func (.func (sideF n)) #[] #[]) (.func (.func vf) #[] vc))
    have b2 := alB w1 (.cells #[.int .i64 (n : Int), .slice S sc sc, .bool nm, .func (.func (fillF n)) #[] #[], .func (.func (sideF n)) #[] #[], .func (.func vf) #[] vc] 50)
    have S2 := Lib.hid (S1.out.keep b2)
    have H2 := Lib.hid (HS.out.move (fun b _ hb => b2.block b hb) b2.size)
    clear b2 HS S1
    obtain ⟨x0, x1, x2⟩ := S2.out.xb.cells
    go_wp2_with fail
    refine (form_any t A c _ (by exact HT.out.keep S2.out.bel S2.out.bel.size)).mono ?_
    rintro e w3 ⟨rfl, hb3⟩
    have S3 := Lib.hid (S2.out.keep hb3)
    have R3 := Lib.hid (R2.out.keep hb3 R2.out.lt)
    have H3 := Lib.hid (H2.out.move (fun b _ hb => hb3.block b hb) hb3.size)
    have RW := Lib.hid (show wantFN t = 0 → rightN t = 0 from fun h => by
      unfold wantFN at h
      by_cases hr : rightN t = 0
      · exact hr
      · rw [if_neg hr] at h; exact absurd h hr)
    clear hb3 x0 x1 x2 S2 R2 H2
    obtain ⟨x0, x1, x2⟩ := S3.out.xb.cells
    obtain ⟨r0, r1⟩ := S3.out.rb.cells
    have f0 := S3.out.rb.frozen 0
    have f1 := S3.out.rb.frozen 1
    obtain ⟨fw, hfw⟩ : ∃ fw, fw = wantFN t := ⟨_, rfl⟩
    rw [← hfw] at R0 RW ⊢
    clear hfw
    by_cases hw : fw = 0
    · subst hw
      have R1 := Lib.hid (R0.out.trans (if_neg (fun h => h rfl)))
      have hr := RW.out rfl
      obtain ⟨y0, y1, y2, y3, y4, y5⟩ := R3.out.cells
      clear R0 RW
      go_wp2_with fail
      refine (partsOf_any n HK.out.1 HK.out.2 S sc nm vf lo vc t A c _ (by exact H3.out) (by exact HT.out.keep S3.out.bel S3.out.bel.size) hr).mono ?_
      rintro e w4 ⟨hb4, hres⟩
      have S4 := Lib.hid (S3.out.keep hb4)
      clear x0 x1 x2 r0 r1 f0 f1 y0 y1 y2 y3 y4 y5 S3 R3 H3 hb4 hr
      cases hp : partsV n t with
      | none =>
        rw [hp] at hres R1
        obtain rfl := hres
        have R := Lib.hid (show partsR (partsV (n : Int).toNat t) (n : Int) t = (none, 73) from R1.out)
        have S5 := Lib.hid (S4.out.keep (alB w4 (.cells #[.slice none 0 0, .int .i64 0] 32)))
        obtain ⟨r0, r1⟩ := S5.out.rb.cells
        have f0 := S5.out.rb.frozen 0
        have f1 := S5.out.rb.frozen 1
        go_wp2_with fail
        obtain ⟨z0, z1⟩ := ((S5.out.rb.set0 none 0 0).set1 0).cells
        exact bodyPost_ret (v := .tuple #[.agg #[.slice none 0 0, .int .i64 0], .int .i64 73]) (by simp [results, Tryz.results12, go_sem, z0, z1]) rfl (partsI_none R.out S5.out.bel (Nat.le_succ _) _ _)
      | some p =>
        obtain ⟨l, x⟩ := p
        rw [hp] at hres R1
        obtain ⟨A7, c7, rfl, hF⟩ := hres
        have R := Lib.hid (show partsR (partsV (n : Int).toNat t) (n : Int) t = (some (l, x), 0) from R1.out)
        have S5 := Lib.hid (S4.out.keep (alB w4 (.cells #[.slice A7 l.length c7, .int .i64 x] 32)))
        have F5 := Lib.hid (hF.keep (alB w4 (.cells #[.slice A7 l.length c7, .int .i64 x] 32))).isT
        obtain ⟨q0, q1⟩ := (BoxP.new w4 A7 l.length c7 x).cells
        obtain ⟨r0, r1⟩ := S5.out.rb.cells
        have f0 := S5.out.rb.frozen 0
        have f1 := S5.out.rb.frozen 1
        clear hF hp
        go_wp2_with fail
        obtain ⟨z0, z1⟩ := ((S5.out.rb.set0 A7 l.length c7).set1 x).cells
        exact bodyPost_ret (v := .tuple #[.agg #[.slice A7 l.length c7, .int .i64 x], .int .i64 0]) (by simp [results, Tryz.results12, go_sem, z0, z1]) rfl (partsI_some R.out S5.out.bel (Nat.le_succ _) S5.out.rb F5.out A7 l.length c7 x)
    · have R := Lib.hid (R0.out.trans (if_pos hw))
      have hw0 : ((fw : Int) != 0) = true := by rw [bne_iff_ne]; omega
      go_wp2_with fail
      obtain ⟨z0, z1⟩ := ((S3.out.rb.set0 none 0 0).set1 0).cells
      exact bodyPost_ret (v := .tuple #[.agg #[.slice none 0 0, .int .i64 0], .int .i64 (fw : Int)]) (by simp [results, Tryz.results12, go_sem, z0, z1]) rfl (partsI_none R.out S3.out.bel (Nat.le_succ _) _ _)
set_option maxHeartbeats 4000000 in
set_option maxRecDepth 100000 in
theorem sis_any (k : Int) (t : Tr) (A : Option Addr) (c : Nat) (w : World) (ht : IsT w w.heap.size t A c) :
    Calls Tryz.prog 11 #[.int .i64 k, .agg #[.int .i64 t.k, .int .i64 t.i, .slice A t.ks.length c]] w fun e w' => e = .returned (.tuple #[.bool (isV (partsR (partsV k.toNat t) k t).2).1, .int .i64 ((isV (partsR (partsV k.toNat t) k t).2).2 : Nat)]) ∧ Below w.heap.size w w' := by
  have HT := Lib.hid ht
  have B0 := Lib.hid (alB w (.cells #[.int .i64 t.k, .int .i64 t.i, .slice A t.ks.length c] 24))
  obtain ⟨x0, x1, x2⟩ := (Box3.new w (.int .i64 t.k) (.int .i64 t.i) (.slice A t.ks.length c)).cells
  clear ht
  go_enter Tryz.func11, Tryz.ntmps11
  go_wp2_with fail
  refine (sparts_any k t A c _ (by exact HT.out.keep B0.out B0.out.size)).mono ?_
  rintro e w1 ⟨hb1, hres⟩
  have B1 := Lib.hid (bl_trans B0.out hb1)
  clear hb1 x0 x1 x2
  obtain ⟨q, f, hqf⟩ : ∃ q f, partsR (partsV k.toNat t) k t = (q, f) := ⟨_, _, rfl⟩
  rw [hqf] at hres
  have HQF := Lib.hid hqf
  clear hqf
  have ends : ∃ A7 n7 c7 x7, e = .returned (.tuple #[.agg #[.slice A7 n7 c7, .int .i64 x7], .int .i64 (f : Int)]) := by
    cases q with
    | none => exact ⟨none, 0, 0, 0, hres⟩
    | some p => obtain ⟨A7, c7, he, _⟩ := hres; exact ⟨A7, p.1.length, c7, p.2, he⟩
  clear hres
  obtain ⟨A7, n7, c7, x7, rfl⟩ := ends
  have B2 := Lib.hid (bl_trans B1.out (alB w1 (.cells #[.slice A7 n7 c7, .int .i64 x7] 32)))
  by_cases h73 : f = 73
  · subst h73
    go_wp2_with fail
    go_ret2
    exact ⟨by rw [HQF.out]; rfl, B2.out⟩
  · have h1 : ((f : Int) == 73) = false := by rw [beq_eq_false_iff_ne]; omega
    have V := Lib.hid (show isV f = (decide (f = 0), f) from if_neg h73)
    by_cases h0 : f = 0
    · subst h0
      go_wp2_with fail
      go_ret2
      exact ⟨by rw [HQF.out]; rfl, B2.out⟩
    · have h2 : ((f : Int) == 0) = false := by rw [beq_eq_false_iff_ne]; omega
      have D := Lib.hid (decide_eq_false h0)
      clear h73 h0
      go_wp2_with fail
      go_ret2
      exact ⟨by rw [HQF.out]; show _ = Ending.returned (.tuple #[.bool (isV f).1, .int .i64 ((isV f).2 : Nat)]); rw [V.out, D.out]; rfl, B2.out⟩
end Go.Proofs.YtgnfbhemkombaaaGreat
