/- The document's read, walked. -/
import Derived.Test.YthnbkojgoegmpaaE20
namespace Go.Proofs.Ythnbkojgoegmpaa
open Go.RowKit
set_option maxHeartbeats 400000 in
theorem runpack_nat (v : Nat) (w : World) (h : v < 4294967296) :
    Calls Try.prog 78 #[.int .u32 (v : Int)] w fun e w' => e = .returned (.tuple #[.int .i64 ((v / 16777216 : Nat) : Int), .int .i64 ((v / 256 % 65536 : Nat) : Int), .int .i64 ((v % 256 : Nat) : Int)]) ∧ w = w' := by
  obtain ⟨vi, hvi⟩ : ∃ vi : Int, vi = (v : Int) := ⟨_, rfl⟩
  have e1 := Lib.hid (show vi / 16777216 = ((v / 16777216 : Nat) : Int) by omega)
  have e2 := Lib.hid (show vi / 256 % 65536 = ((v / 256 % 65536 : Nat) : Int) by omega)
  have e3 := Lib.hid (show vi % 256 = ((v % 256 : Nat) : Int) by omega)
  have h0 : 0 ≤ vi := by omega
  have h1 : vi < 4294967296 := by omega
  rw [← hvi]
  clear hvi h
  go_enter Try.func78, Try.ntmps78
  go_wp2
  go_ret3
  exact ⟨ret_three e1.out e2.out e3.out, rfl⟩
theorem ret_read {a : Value} {x y z x' y' z' : Int} (h : x = x') (h' : y = y') (h'' : z = z') : Ending.returned (.tuple #[a, .int .i64 x, .int .i64 y, .int .i64 z]) = .returned (.tuple #[a, .int .i64 x', .int .i64 y', .int .i64 z']) := by rw [h, h', h'']
set_option maxRecDepth 100000 in
set_option maxHeartbeats 1000000 in
theorem read_full (A : Option Addr) (n cap : Nat) (bs : List Nat) (p : Nat) (w : World) :
    Calls Try.prog 56 #[.slice A n cap, .int .i64 (p : Int), .int .i64 1000] w (ReadPost w bs 0 p 1000) := by
  have F := Lib.hid (rdH_full bs 0 p)
  have e0 := Box3.new w (.int .i64 0) (.int .i64 0) (.slice none 0 0)
  obtain ⟨y0, y1, y2⟩ := e0.cells
  have BB := Lib.hid ((Below.refl w.heap.size w).alloc (Nat.le_refl _) (.cells #[.int .i64 0, .int .i64 0, .slice none 0 0] 24))
  clear e0
  go_enter Try.func56, Try.ntmps56
  go_wp2_with fail
  refine bodyPost_ret (v := .tuple #[.agg #[.int .i64 0, .int .i64 0, .slice none 0 0], .int .i64 (p : Int), .int .i64 1000, .int .i64 20]) (by simp [results, Try.results56, go_sem, y0, y1, y2]) rfl ⟨BB.out, ?_⟩
  rw [F.out]
  exact ⟨by decide, p, 1000, rfl⟩
set_option maxRecDepth 100000 in
set_option maxHeartbeats 4000000 in
theorem read_any (A : Option Addr) (n cap : Nat) (bs : List Nat) (B : Nat) (hl : bs.length = n) (hb : Bytes bs) (hn : n ≤ maxLen) (hc : n ≤ cap) :
    ∀ (R r p nn : Nat) (w : World), r ≤ R → nn + r = 1000 → p ≤ n → B ≤ w.heap.size → Rd .u8 w B A (bcast bs) →
    Calls Try.prog 56 #[.slice A n cap, .int .i64 (p : Int), .int .i64 (nn : Int)] w (ReadPost w bs r p nn) := by
  intro R
  induction R with
  | zero =>
    intro r p nn w hr hnn hp hB hR
    obtain rfl : r = 0 := by omega
    obtain rfl : nn = 1000 := by omega
    exact read_full A n cap bs p w
  | succ R ih =>
    intro r p nn w hr hnn hp hB hR
    cases r with
    | zero =>
      obtain rfl : nn = 1000 := by omega
      exact read_full A n cap bs p w
    | succ r =>
    have IH := Lib.hid ih
    have HR := Lib.hid hR
    have L := Lib.hid hl
    clear ih hR hl
    obtain ⟨i0, hi, hz0, hz1, hzb⟩ := info_parts infoE
    have HI := Lib.hid (And.intro hi (And.intro hz0 (And.intro hz1 hzb)))
    clear hi hz0 hz1 hzb
    have hnn' : ¬ (1000 : Int) ≤ (nn : Int) := by omega
    have hpi : (p : Int) ≤ (cap : Int) := by omega
    have hpc : p ≤ cap := by omega
    have e0 := Box3.new w (.int .i64 0) (.int .i64 0) (.slice none 0 0)
    obtain ⟨y0, y1, y2⟩ := e0.cells
    have hb1 : Below w.heap.size w (w.alloc (.cells #[.int .i64 0, .int .i64 0, .slice none 0 0] 24)) := (Below.refl _ _).alloc (Nat.le_refl _) _
    have E0 := Lib.hid e0
    have HB1 := Lib.hid hb1
    have RD1 := Lib.hid ((HR.out.keep (hb1.mono hB) (Nat.le_refl _)).drop p)
    have LD := Lib.hid (show (bs.drop p).length = n - p by rw [List.length_drop, L.out])
    have BD : Bytes (bs.drop p) := fun b hb' => hb b (List.mem_of_mem_drop hb')
    have GB := Lib.hid (fun h => getN_back (bs.drop p) BD h)
    have I1 := Lib.hid (fun h => rdH_err bs r 0 p h)
    have I2 := Lib.hid (fun h => rdH_big bs r 0 p h)
    have I3 := Lib.hid (fun h => rdH_more bs r 0 p h)
    clear e0 hb1
    rcases Nat.eq_or_lt_of_le hpc with hcp | hcp
    · have G0 := Lib.hid (show getN (bs.drop p) = ⟨0, 0, 10⟩ by
        have e : bs.drop p = [] := List.eq_nil_of_length_eq_zero (by rw [LD.out]; omega)
        rw [e]; exact getF_end 0 0)
      have F := Lib.hid (show rdH bs (r + 1) 1 p = .error 10 by have := I1.out (by rw [G0.out]; decide); rw [G0.out] at this; exact this)
      clear hcp
      go_enter Try.func56, Try.ntmps56
      go_wp2_with fail
      all_goals
        refine (rget_any _ _ _ (bs.drop p) B _ LD.out BD (by first | exact RD1.out | exact Rd.none _ (by rw [LD.out]; omega)) (by unfold maxLen at *; omega)).mono ?_
        rintro e w' ⟨rfl, rfl⟩
        rw [G0.out]
        go_wp2_with fail
        refine bodyPost_ret (v := .tuple #[.agg #[.int .i64 0, .int .i64 0, .slice none 0 0], .int .i64 (p : Int), .int .i64 (nn : Int), .int .i64 10]) (by simp [results, Try.results56, go_sem, y0, y1, y2]) rfl ⟨HB1.out, ?_⟩
        rw [F.out]
        exact ⟨by decide, p, nn, rfl⟩
    · go_enter Try.func56, Try.ntmps56
      go_wp2_with fail
      all_goals (try (exfalso; omega))
      refine (rget_any _ _ _ (bs.drop p) B _ LD.out BD (by first | exact RD1.out | exact Rd.none _ (by rw [LD.out]; omega)) (by unfold maxLen at *; omega)).mono ?_
      rintro e w' ⟨rfl, rfl⟩
      obtain ⟨v, hv⟩ : ∃ v, v = (getN (bs.drop p)).val := ⟨_, rfl⟩
      obtain ⟨l, hl⟩ : ∃ l, l = (getN (bs.drop p)).len := ⟨_, rfl⟩
      obtain ⟨f, hf⟩ : ∃ f, f = (getN (bs.drop p)).err := ⟨_, rfl⟩
      rw [← hv, ← hl, ← hf]
      rw [← hf] at I1
      rw [← hf, ← hv] at I2
      rw [← hf, ← hv, ← hl] at I3
      rw [← hv, ← hl, ← hf] at GB
      clear hv hl hf
      by_cases hf0 : f = 0
      · have gl := (GB.out hf0).2.2.1
        rw [LD.out] at gl
        have HF0 := Lib.hid hf0
        have hf1 : ((f : Int) != 0) = false := by rw [hf0]; rfl
        clear hf0
        obtain ⟨vi, hvi⟩ : ∃ vi : Int, vi = (v : Int) := ⟨_, rfl⟩
        rw [← hvi]
        by_cases hbig : 4294967295 < v
        · have hbig' : (4294967295 : Int) < vi := by omega
          have F := Lib.hid (I2.out HF0.out hbig)
          clear hbig gl hvi
          go_wp2_with fail
          refine bodyPost_ret (v := .tuple #[.agg #[.int .i64 0, .int .i64 0, .slice none 0 0], .int .i64 (p : Int), .int .i64 (nn : Int), .int .i64 11]) (by simp [results, Try.results56, go_sem, y0, y1, y2]) rfl ⟨HB1.out, ?_⟩
          rw [F.out]
          exact ⟨by decide, p, nn, rfl⟩
        · have hbig' : ¬ (4294967295 : Int) < vi := by omega
          have NI := Lib.hid (I3.out HF0.out hbig)
          have hw32 : IntKind.u32.wrap vi = vi := by rw [IntKind.wrap_u32]; omega
          have UN := Lib.hid (runpack_nat v (w.alloc (.cells #[.int .i64 0, .int .i64 0, .slice none 0 0] 24)) (by omega))
          have HN := Lib.hid (show hdOf v = ⟨((v / 16777216 : Nat) : Int), ((v / 256 % 65536 : Nat) : Int), v % 256⟩ from rfl)
          obtain ⟨x, hx⟩ : ∃ x, x = v / 16777216 := ⟨_, rfl⟩
          obtain ⟨y, hy⟩ : ∃ y, y = v / 256 % 65536 := ⟨_, rfl⟩
          obtain ⟨z, hz⟩ : ∃ z, z = v % 256 := ⟨_, rfl⟩
          have hz2 : z < 256 := by omega
          rw [← hx, ← hy, ← hz] at UN HN
          rw [← hz] at NI
          simp only [Nat.zero_add] at NI
          rw [← hvi] at UN
          clear hx hy hz hbig hvi
          have e1 := Box3.new (w.alloc (.cells #[.int .i64 0, .int .i64 0, .slice none 0 0] 24)) (.int .i64 (x : Int)) (.int .i64 (y : Int)) (.slice none 0 0)
          simp only [World.size_alloc] at e1
          have E1 := Lib.hid e1
          have E0' := Lib.hid (E0.out.keep ((Below.refl (w.heap.size + 1) (w.alloc (.cells #[.int .i64 0, .int .i64 0, .slice none 0 0] 24))).alloc (by simp) (.cells #[.int .i64 (x : Int), .int .i64 (y : Int), .slice none 0 0] 24)) (by omega))
          clear e1 y0 y1 y2
          go_wp2_with fail
          refine UN.out.mono ?_
          rintro e w' ⟨rfl, rfl⟩
          have hq1 : p + l ≤ n := by omega
          have hn2 : n ≤ 9223372036854775807 := by unfold maxLen at hn; omega
          go_wp2_with fail
          go_loopw [1, 2, 17] (fun a nv i wr => ∃ (ts : List Tr) (p' nl : Nat) (A1 : Option Addr) (c1 : Nat) (cs : List (Option Addr × Nat)), a = .int .i64 (p' : Int) ∧ nv = .int .i64 ((nn + 1 + nl : Nat) : Int) ∧ i = .int .i64 (ts.length : Int) ∧ nl = (hdsL ts).length ∧ ts.length ≤ z ∧ p' ≤ n ∧ nl ≤ r ∧ KInv bs r z (p + l) ts p' ∧ Box3 wr w.heap.size (.int .i64 0) (.int .i64 0) (.slice none 0 0) ∧ Lay w wr w.heap.size (w.heap.size + 2) (w.heap.size + 1) (.int .i64 (x : Int)) (.int .i64 (y : Int)) ts A1 c1 cs) (fun _ _ i _ => z - (intOf i).toNat)
          case atStart =>
            refine ⟨[], p + l, 0, none, 0, [], by go_num, by go_num, rfl, rfl, Nat.zero_le _, hq1, Nat.zero_le _, KInv.start _ _ _ _, E0'.out, ?_⟩
            exact ⟨HB1.out.alloc (by simp) _, rfl, E1.out, by omega, by omega, by simpa [rowC] using World.ownsRow_nil _ _ _ _, by simp [OwnL]⟩
          case round =>
            obtain ⟨ts, p', nl, A1, c1, cs, rfl, rfl, rfl, hnl, htz, hp', hnr, hK, hbx, hLay⟩ := hrel
            have HK := Lib.hid hK
            have HBX := Lib.hid hbx
            have HLY := Lib.hid hLay
            have HNL := Lib.hid hnl
            have hbr := hLay.below
            clear hK hbx hLay hnl
            by_cases hlt : ts.length < z
            · have hlt' : (ts.length : Int) < (z : Int) := by omega
              have HRW := Lib.hid (HR.out.keep (hbr.mono hB) (Nat.le_refl _))
              go_wp2_with fail
              refine (IH.out (r - nl) p' (nn + 1 + nl) _ (by omega) (by omega) hp' (by have := hbr.size; omega) (by exact HRW.out)).mono ?_
              rintro e w1 ⟨hb2, hpost⟩
              have hs1 := hb2.size
              cases hrd : rdH bs (r - nl) 1 p' with
              | error f2 =>
                rw [hrd] at hpost
                obtain ⟨hf2, a2, m2, rfl⟩ := hpost
                have F := Lib.hid (show rdH bs (r + 1) 1 p = .error f2 by
                  rw [NI.out, HK.out.err hlt (by rw [← HNL.out]; exact hrd)])
                have hf3 : ((f2 : Int) != 0) = true := by rw [bne_iff_ne]; omega
                have bz : ∀ o, Box3 (w1.alloc o) w.heap.size (.int .i64 0) (.int .i64 0) (.slice none 0 0) := fun o => (HBX.out.keep hb2 HBX.out.lt).keep ((Below.refl w1.heap.size w1).alloc (Nat.le_refl _) o) (by have := HBX.out.lt; omega)
                have y0 := fun o => (bz o).cells.1
                have y1 := fun o => (bz o).cells.2.1
                have y2 := fun o => (bz o).cells.2.2
                have f0 := fun o => (bz o).frozen 0
                have f1 := fun o => (bz o).frozen 1
                have f4 := fun o => (bz o).frozen 2
                have BW := Lib.hid (fun o => ((hbr.trans (hb2.mono hbr.size)).alloc (Nat.le_trans hbr.size hs1) o))
                clear bz hrd
                go_wp2_with fail
                refine bodyPost_ret (v := .tuple #[.agg #[.int .i64 0, .int .i64 0, .slice none 0 0], .int .i64 (p' : Int), .int .i64 ((nn + 1 + nl : Nat) : Int), .int .i64 (f2 : Int)]) (by simp [results, Try.results56, go_sem, y0, y1, y2]) rfl ⟨below_set3 (BW.out _) _ _ _ (Nat.le_refl _), ?_⟩
                rw [F.out]
                exact ⟨hf2, p', nn + 1 + nl, rfl⟩
              | ok res =>
                obtain ⟨hs2, q2⟩ := res
                rw [hrd] at hpost
                obtain ⟨q, A2, c2, hq, ho, rfl⟩ := hpost
                have RB := rdH_bounds hb hrd (by rw [L.out]; exact hp')
                rw [L.out] at RB
                have NK := Lib.hid (HK.out.step hlt (by rw [← HNL.out, hq]; exact hrd))
                have NHL := Lib.hid (show nl + hs2.length = (hdsL (ts ++ [q])).length by rw [hdsL_append, List.length_append, ← HNL.out, ← hq]; simp [hdsL])
                have bx : Box3 w1 (w.heap.size + 1) (.int .i64 (x : Int)) (.int .i64 (y : Int)) (.slice A1 ts.length c1) := HLY.out.box.keep hb2 HLY.out.box.lt
                have bx2 : ∀ o, (w1.alloc o).cell? ⟨w.heap.size + 1, 2, none⟩ = some (.slice A1 ts.length c1) := fun o => (((Below.refl w1.heap.size w1).alloc (Nat.le_refl _) o).cell bx.lt).trans bx.cells.2.2
                have own1 := Lib.hid (ownsRow_same (hi := wr.heap.size) HLY.out.own (fun k k1 k2 => hb2.block k k2) (fun g e => (HLY.out.own.lt g e).2))
                have OWN := Lib.hid (fun o o' => (own1.out.alloc o).alloc o')
                have BX := Lib.hid bx
                have HO := Lib.hid ho
                have HB2 := Lib.hid hb2
                have HBX' := Lib.hid (HBX.out.keep hb2 HBX.out.lt)
                have OB := Lib.hid (fun g e => (HLY.out.own.lt g e))
                have hbig2 : w.heap.size + 1 < w1.heap.size := by have := HLY.out.box.lt; omega
                have STEP := Lib.hid (fun (w4 : World) (o2 o3 : Obj) => @Lay.step w wr w1 w4 _ _ _ _ _ ts q A1 c1 cs HLY.out o2 o3 HB2.out A2 c2 HO.out)
                have hzz : ts.length < 256 := by omega
                clear bx ho hb2 own1 hq hrd
                go_wp2_with (at_builtin; refine wpList_append_lies _ (by rfl) _ _ _ (by rfl) (w.heap.size + 2) 24 i0 _ 3 40 Try.underlying22 HI.out.1 HI.out.2.1 HI.out.2.2.1 HI.out.2.2.2 (by rfl) (by omega) (.slice A1 ts.length c1) ts.length (rowC ts cs) (by rfl) (by exact OWN.out _ _) ⟨w1.heap.size + 1, 0, none⟩ 1 1 [.int .i64 q.k, .int .i64 q.i, .slice A2 q.ks.length c2] (by rfl) (by rfl) (by exact news3 _ _ _ _ _ _) (by simp [Value.oneCell']) (by omega) (by unfold maxLen; omega) (by omega) (by simp; omega) (w1.heap.size + 2) (by simp) ?_; intro g cap4 w4 hown4 hgrow hat hlt4; have bx4 := Lib.hid (Box3.grown (w := (w1.alloc (.cells #[.int .i64 q.k, .int .i64 q.i, .slice A2 q.ks.length c2] 24)).alloc (.cells #[.int .i64 q.k, .int .i64 q.i, .slice A2 q.ks.length c2] 24)) ((BX.out.keep ((Below.refl (w.heap.size + 2) w1).alloc (by omega) _) (by omega)).keep ((Below.refl (w.heap.size + 2) _).alloc (by simp; omega) _) (by omega)) hgrow (fun e => by have := OB.out _ e.symm; omega)); have c4 : w4.cell? ⟨w.heap.size + 1, 2, none⟩ = some (.slice A1 ts.length c1) := bx4.out.cells.2.2; have f4 : w4.frozen? ⟨w.heap.size + 1, 2, none⟩ = false := bx4.out.frozen 2; have HO4 := Lib.hid hown4; have HG4 := Lib.hid hgrow; have HAT := Lib.hid hat; clear hown4 hgrow hat)
                have NL := Lib.hid (STEP.out w4 _ _ HO4.out HG4.out HAT.out)
                have rb := Lib.hid (Box3.grown (w := (w1.alloc (.cells #[.int .i64 q.k, .int .i64 q.i, .slice A2 q.ks.length c2] 24)).alloc (.cells #[.int .i64 q.k, .int .i64 q.i, .slice A2 q.ks.length c2] 24)) ((HBX'.out.keep ((Below.refl (w.heap.size + 2) w1).alloc (by omega) _) (by omega)).keep ((Below.refl (w.heap.size + 2) _).alloc (by simp; omega) _) (by omega)) HG4.out (fun e => by have := OB.out _ e.symm; omega))
                go_roundw
                case rel => exact ⟨ts ++ [q], q2, nl + hs2.length, _, _, _, rfl, by go_num, by simp, NHL.out, by simp only [List.length_append, List.length_cons, List.length_nil]; omega, RB.1, by omega, NK.out, rb.out.set_other _ _ (by show w.heap.size ≠ w.heap.size + 1; omega), NL.out⟩
                case measure => simp [intOf]; omega
            · obtain rfl : ts.length = z := by omega
              have KD := HK.out.done rfl
              have F := Lib.hid (show rdH bs (r + 1) 1 p = .ok (hdOf v :: hdsL ts, p') by rw [NI.out, KD])
              obtain ⟨t, ht⟩ : ∃ t, t = Tr.node (x : Int) (y : Int) ts := ⟨_, rfl⟩
              have tk : t.k = (x : Int) := by rw [ht]; rfl
              have ti : t.i = (y : Int) := by rw [ht]; rfl
              have tks : t.ks = ts := by rw [ht]; rfl
              have TH := Lib.hid (show t.hds = hdOf v :: hdsL ts by rw [hds_eq, HN.out, Tr.hd, tk, ti, tks])
              have DN := Lib.hid (show OwnT wr (w.heap.size + 2) wr.heap.size t A1 c1 from Lay.done (by rw [tks]; exact HLY.out))
              have TK := Lib.hid (And.intro tk (And.intro ti tks))
              have hlt' : ¬ (ts.length : Int) < (ts.length : Int) := by omega
              obtain ⟨x0, x1, x2⟩ := HLY.out.box.cells
              obtain ⟨y0, y1, y2⟩ := HBX.out.cells
              have f0 := HBX.out.frozen 0
              have f1 := HBX.out.frozen 1
              have f2 := HBX.out.frozen 2
              clear ht tk ti tks KD
              go_wp2_with fail
              refine bodyPost_ret (v := .tuple #[.agg #[.int .i64 (x : Int), .int .i64 (y : Int), .slice A1 ts.length c1], .int .i64 (p' : Int), .int .i64 ((nn + 1 + nl : Nat) : Int), .int .i64 0]) (by simp [results, Try.results56, go_sem, y0, y1, y2]) rfl ⟨below_set3 hbr _ _ _ (Nat.le_refl _), ?_⟩
              rw [F.out]
              obtain ⟨tk, ti, tks⟩ := TK.out
              refine ⟨t, A1, c1, TH.out, ?_, ?_⟩
              · have hs : SameIn (w.heap.size + 2) wr.heap.size wr (((wr.setCell ⟨w.heap.size, 0, none⟩ (.int .i64 (x : Int))).setCell ⟨w.heap.size, 1, none⟩ (.int .i64 (y : Int))).setCell ⟨w.heap.size, 2, none⟩ (.slice A1 ts.length c1)) := same_set3 _ _ _ _ _ (by omega)
                have := (DN.out.same _ hs).lower (lo' := w.heap.size) (by omega)
                simpa using this
              · rw [tk, ti, tks]
                exact ret_read rfl (by have := HNL.out; simp only [List.length_cons]; omega) rfl
      · have hf1 : ((f : Int) != 0) = true := by rw [bne_iff_ne]; omega
        have F := Lib.hid (I1.out hf0)
        go_wp2_with fail
        refine bodyPost_ret (v := .tuple #[.agg #[.int .i64 0, .int .i64 0, .slice none 0 0], .int .i64 (p : Int), .int .i64 (nn : Int), .int .i64 (f : Int)]) (by simp [results, Try.results56, go_sem, y0, y1, y2]) rfl ⟨HB1.out, ?_⟩
        rw [F.out]
        exact ⟨hf0, p, nn, rfl⟩
end Go.Proofs.Ythnbkojgoegmpaa
