/- equivalent of package subst. -/
import Derived.Test.YtfdggmmibgbfnaaA9
import Derived.Deep.RegionHeld3
import Derived.Deep.DeepCutAuto
namespace Go.Proofs.Ytfdggmmibgbfnaa
open Go.RowKit
set_option linter.unusedVariables false
set_option linter.unusedSimpArgs false
attribute [local go_sem ↓] exec_build5 exec_slice1
/-- the box of the couple that is looked at -/
structure BoxC (w wo wx : World) (s : Cp) (p : Pl) (X : Array Value) (st0 : List Cp) (g c1 : Nat) (cs0 : List Pl) (f' g' : Int → Int) : Prop where
  box : wx.heap[wo.heap.size]? = some (.cells X 120 (0, 0))
  isc : IsC X s.a s.b p.A p.A' p.c p.c' (s.d : Int) f' g'
  stk : IsCs w wx st0 (some ⟨g, 0, none⟩) c1 cs0
theorem rowCp_setF (a b : Tr) (A A' : Option Addr) (c c' : Nat) (d : Int) (f g : Int → Int) (i : Nat) (v : Int) (h1 : i ≤ 63) : (rowCp a b A A' c c' d f g).set (7 + i) (.int .i64 v) = rowCp a b A A' c c' d (setF f (i : Int) v) g := by
  unfold rowCp
  rw [List.set_append_right _ _ (by simp), List.set_append_left _ _ (by simp [rowF_len]; omega)]
  rw [show 7 + i - [Value.int .i64 a.k, .int .i64 a.i, .slice A a.ks.length c, .int .i64 b.k, .int .i64 b.i, .slice A' b.ks.length c', .int .i64 d].length = (i : Int).toNat by simp]
  rw [rowF_set f (i : Int) v (by omega) (by omega)]
theorem rowCp_setG (a b : Tr) (A A' : Option Addr) (c c' : Nat) (d : Int) (f g : Int → Int) (i : Nat) (v : Int) (h1 : i ≤ 63) : (rowCp a b A A' c c' d f g).set (71 + i) (.int .i64 v) = rowCp a b A A' c c' d f (setF g (i : Int) v) := by
  unfold rowCp
  rw [List.set_append_right _ _ (by simp; omega), List.set_append_right _ _ (by simp [rowF_len]; omega)]
  rw [show 71 + i - [Value.int .i64 a.k, .int .i64 a.i, .slice A a.ks.length c, .int .i64 b.k, .int .i64 b.i, .slice A' b.ks.length c', .int .i64 d].length - (rowF f).length = (i : Int).toNat by simp [rowF_len]; omega]
  rw [rowF_set g (i : Int) v (by omega) (by omega)]
theorem IsCs.other {w wx : World} {st : List Cp} {g c : Nat} {cs : List Pl} (h : IsCs w wx st (some ⟨g, 0, none⟩) c cs) {b : Nat} (hb : w.heap.size ≤ b) (hg : g < b) (i : Nat) (v : Value) : IsCs w (wx.setCell ⟨b, i, none⟩ v) st (some ⟨g, 0, none⟩) c cs :=
  ⟨h.below.setCell hb v, h.len, ownsRow_same (hi := b) h.own (fun k _ k2 => heap_setCell_other _ _ _ _ (by show k ≠ b; omega)) (fun g' e => by have : g = g' := (by simpa [Value.ownBlock] using e); omega), h.ta, h.tb, h.good⟩
theorem BoxC.putF {w wo wx : World} {s : Cp} {p : Pl} {X : Array Value} {st0 : List Cp} {g c1 : Nat} {cs0 : List Pl} {f' g' : Int → Int} (h : BoxC w wo wx s p X st0 g c1 cs0 f' g') (hg : g < wo.heap.size) (hw : w.heap.size ≤ wo.heap.size) (i : Nat) (v : Int) (hi : i ≤ 63) :
    BoxC w wo (wx.setCell ⟨wo.heap.size, 7 + i, none⟩ (.int .i64 v)) s p (X.setIfInBounds (7 + i) (.int .i64 v)) st0 g c1 cs0 (setF f' (i : Int) v) g' :=
  ⟨heap_setCell_same _ _ _ _ _ _ h.box, ⟨by rw [h.isc.eq, List.setIfInBounds_toArray, rowCp_setF _ _ _ _ _ _ _ _ _ _ _ hi]⟩, h.stk.other hw hg _ _⟩
theorem BoxC.putG {w wo wx : World} {s : Cp} {p : Pl} {X : Array Value} {st0 : List Cp} {g c1 : Nat} {cs0 : List Pl} {f' g' : Int → Int} (h : BoxC w wo wx s p X st0 g c1 cs0 f' g') (hg : g < wo.heap.size) (hw : w.heap.size ≤ wo.heap.size) (i : Nat) (v : Int) (hi : i ≤ 63) :
    BoxC w wo (wx.setCell ⟨wo.heap.size, 71 + i, none⟩ (.int .i64 v)) s p (X.setIfInBounds (71 + i) (.int .i64 v)) st0 g c1 cs0 f' (setF g' (i : Int) v) :=
  ⟨heap_setCell_same _ _ _ _ _ _ h.box, ⟨by rw [h.isc.eq, List.setIfInBounds_toArray, rowCp_setG _ _ _ _ _ _ _ _ _ _ _ hi]⟩, h.stk.other hw hg _ _⟩
theorem BoxC.froz {w wo wx : World} {s : Cp} {p : Pl} {X : Array Value} {st0 : List Cp} {g c1 : Nat} {cs0 : List Pl} {f' g' : Int → Int} (h : BoxC w wo wx s p X st0 g c1 cs0 f' g') (j : Nat) : wx.frozen? ⟨wo.heap.size, j, none⟩ = false := by simp [World.frozen?, h.box]
theorem BoxC.cell {w wo wx : World} {s : Cp} {p : Pl} {X : Array Value} {st0 : List Cp} {g c1 : Nat} {cs0 : List Pl} {f' g' : Int → Int} (h : BoxC w wo wx s p X st0 g c1 cs0 f' g') (j : Nat) (v : Value) (hv : (rowCp s.a s.b p.A p.A' p.c p.c' (s.d : Int) f' g')[j]? = some v) : wx.cell? ⟨wo.heap.size, j, none⟩ = some v := by
  rw [cell_of_row _ _ j X 120 (0, 0) h.box, h.isc.eq, List.getElem?_toArray]; exact hv
theorem isC_cell {W : World} {bo : Nat} {X : Array Value} {a b : Tr} {A A' : Option Addr} {c c' : Nat} {d : Int} {f g : Int → Int} (hb : W.heap[bo]? = some (.cells X 120 (0, 0))) (h : IsC X a b A A' c c' d f g) (j : Nat) (v : Value) (hv : (rowCp a b A A' c c' d f g)[j]? = some v) : W.cell? ⟨bo, j, none⟩ = some v := by
  rw [cell_of_row _ _ j X 120 (0, 0) hb, h.eq, List.getElem?_toArray]; exact hv
theorem isC_rangeF {W : World} {bo : Nat} {X : Array Value} {a b : Tr} {A A' : Option Addr} {c c' : Nat} {d : Int} {f g : Int → Int} (hb : W.heap[bo]? = some (.cells X 120 (0, 0))) (h : IsC X a b A A' c c' d f g) : W.rangeAt bo 7 (rowF f) := fun j v hv => by
  have hj := (List.getElem?_eq_some_iff.1 hv).1
  rw [rowF_len] at hj
  refine isC_cell hb h _ _ ?_
  have := rowCp_f a b A A' c c' d f g (j : Int) (by omega) (by omega)
  rw [Int.toNat_natCast] at this
  rw [this, ← rowF_at f j hj, hv]
theorem isC_rangeG {W : World} {bo : Nat} {X : Array Value} {a b : Tr} {A A' : Option Addr} {c c' : Nat} {d : Int} {f g : Int → Int} (hb : W.heap[bo]? = some (.cells X 120 (0, 0))) (h : IsC X a b A A' c c' d f g) : W.rangeAt bo 71 (rowF g) := fun j v hv => by
  have hj := (List.getElem?_eq_some_iff.1 hv).1
  rw [rowF_len] at hj
  refine isC_cell hb h _ _ ?_
  have := rowCp_g a b A A' c c' d f g (j : Int) (by omega) (by omega)
  rw [Int.toNat_natCast] at this
  rw [this, ← rowF_at g j hj, hv]
theorem infoCpAll : ∃ i z, Try.prog.info? 120 = some i ∧ i.zero = some z ∧ i.size = 135 ∧ i.bytes = 1112 ∧ z.cells.size = 135 := by
  have h := zeroCp
  cases hi : Try.prog.info? 120 with
  | none => rw [hi] at h; simp at h
  | some i =>
    rw [hi] at h
    cases hz : i.zero with
    | none => simp [hz] at h
    | some z => simp [hz] at h; exact ⟨i, z, rfl, hz, h.1, h.2.1, h.2.2⟩
/-- what the inner loop's region needs of a world: the box is there, what came in is as it was -/
structure K14 (w wo : World) (X2 : Array Value) (W : World) : Prop where
  box : W.heap[wo.heap.size]? = some (.cells X2 120 (0, 0))
  below : Below w.heap.size w W
theorem cp_var {t : Tr} (h : t.shp = true) (hk : t.k = 1) : 0 ≤ t.i ∧ t.i ≤ 63 := by
  have := shp_varT h hk
  omega
set_option maxHeartbeats 4000000 in
set_option maxRecDepth 100000 in
theorem equivalent_any (a b : Tr) (A A' : Option Addr) (c c' : Nat) (w : World) (ha : IsT w w.heap.size a A c) (hb : IsT w w.heap.size b A' c') (har : a.shp = true) (hbr : b.shp = true) (hsz : a.sz ≤ 1000) (hdp : a.dp ≤ 100) :
    Calls Try.prog 53 #[.agg #[.int .i64 a.k, .int .i64 a.i, .slice A a.ks.length c], .agg #[.int .i64 b.k, .int .i64 b.i, .slice A' b.ks.length c']] w fun e w' => e = .returned (.bool (eqvT a b 1 id id)) ∧ Below w.heap.size w w' := by
  have GD : goodC ⟨a, b, 1, id, id⟩ := ⟨har, hbr, Nat.le_refl _, by show 1 - 1 + a.dp ≤ 100; omega⟩
  have START := Lib.hid (fun (W : World) (h : Below w.heap.size w W) (hz : w.heap.size + 2 ≤ W.heap.size) => IsCs.start (s := ⟨a, b, 1, id, id⟩) (p := ⟨A, c, A', c'⟩) h hz ha hb GD)
  have hB : Try.prog.built 120 [(0, .agg #[.int .i64 a.k, .int .i64 a.i, .slice A a.ks.length c]), (1, .agg #[.int .i64 b.k, .int .i64 b.i, .slice A' b.ks.length c']), (2, .int .i64 1), (3, .agg (rowF id).toArray), (4, .agg (rowF id).toArray)] = some ((⟨a, b, 1, id, id⟩ : Cp).row ⟨A, c, A', c'⟩).toArray := built_cp ⟨a, b, 1, id, id⟩ ⟨A, c, A', c'⟩
  have hL : ((⟨a, b, 1, id, id⟩ : Cp).row ⟨A, c, A', c'⟩).toArray.size = 135 := by simp [Cp.row_len]
  obtain ⟨X0, hX0⟩ : ∃ X, X = ((⟨a, b, 1, id, id⟩ : Cp).row ⟨A, c, A', c'⟩).toArray := ⟨_, rfl⟩
  rw [← hX0] at hB hL START
  obtain ⟨Y, hY⟩ : ∃ Y, Y = (rowF id).toArray := ⟨_, rfl⟩
  rw [← hY] at hB
  have OWN := Lib.hid (fun w1 => own_at w1 Y (by rw [hY]; exact ownA_row.symm))
  replace hX0 := Lib.hid hX0
  replace hY := Lib.hid hY
  have R0 := Lib.hid (show cpB [⟨a, b, 1, id, id⟩] = eqvT a b 1 id id by simp [cpB])
  obtain ⟨R, hR⟩ : ∃ R, R = eqvT a b 1 id id := ⟨_, rfl⟩
  rw [← hR] at R0 ⊢
  clear hR
  have TB := Lib.hid (fun w1 (h : Below (w.heap.size + 2) ((w.alloc (.cells #[.int .i64 a.k, .int .i64 a.i, .slice A a.ks.length c] 24)).alloc (.cells #[.int .i64 b.k, .int .i64 b.i, .slice A' b.ks.length c'] 24)) w1) => two_boxes h)
  have B0 := Lib.hid (show Below w.heap.size w ((w.alloc (.cells #[.int .i64 a.k, .int .i64 a.i, .slice A a.ks.length c] 24)).alloc (.cells #[.int .i64 b.k, .int .i64 b.i, .slice A' b.ks.length c'] 24)) from ((Below.refl _ _).alloc (Nat.le_refl _) _).alloc (by show _ ≤ (w.heap.push _).size; simp) _)
  obtain ⟨Z, hZs, hZ⟩ := zeroRunCp
  have HI := Lib.hid (show (Try.prog.info? 120).map (·.size) = some 135 by
    have h := zeroCp
    cases hq : Try.prog.info? 120 with
    | none => rw [hq] at h; simp at h
    | some i => rw [hq] at h; simp at h; simp [h.1])
  obtain ⟨dC, hdC, hrC⟩ : ∃ d, Try.prog.underlying 120 = some d ∧ d.isRow = true := by
    have h := strCp
    cases hq : Try.prog.underlying 120 with
    | none => rw [hq] at h; simp at h
    | some d => rw [hq] at h; exact ⟨d, rfl, by simpa using h⟩
  replace hdC := Lib.hid hdC
  replace hrC := Lib.hid hrC
  clear GD ha hb
  go_enter Try.func53, Try.ntmps53
  go_wp2_with fail
  go_step3
  go_wp2_with fail
  have TK : Below (w.heap.size + 2) ((w.alloc (.cells #[.int .i64 a.k, .int .i64 a.i, .slice A a.ks.length c] 24)).alloc (.cells #[.int .i64 b.k, .int .i64 b.i, .slice A' b.ks.length c'] 24)) ((w.alloc (.cells #[.int .i64 a.k, .int .i64 a.i, .slice A a.ks.length c] 24)).alloc (.cells #[.int .i64 b.k, .int .i64 b.i, .slice A' b.ks.length c'] 24)).drew := (Below.refl _ _).drew
  have ZZ := Lib.hid (fun (W : World) (h : Below (w.heap.size + 2) ((w.alloc (.cells #[.int .i64 a.k, .int .i64 a.i, .slice A a.ks.length c] 24)).alloc (.cells #[.int .i64 b.k, .int .i64 b.i, .slice A' b.ks.length c'] 24)) W) => show w.heap.size + 2 ≤ W.heap.size by have := h.size; simpa using this)
  go_region_held3 (fun w' => (w'.cell? ⟨w.heap.size, 0, none⟩ = some (.int .i64 a.k) ∧ w'.cell? ⟨w.heap.size, 1, none⟩ = some (.int .i64 a.i) ∧ w'.cell? ⟨w.heap.size, 2, none⟩ = some (.slice A a.ks.length c)) ∧ (w'.cell? ⟨w.heap.size + 1, 0, none⟩ = some (.int .i64 b.k) ∧ w'.cell? ⟨w.heap.size + 1, 1, none⟩ = some (.int .i64 b.i) ∧ w'.cell? ⟨w.heap.size + 1, 2, none⟩ = some (.slice A' b.ks.length c')))
    (first | exact TB.out _ TK | exact TB.out _ (TK.alloc (ZZ.out _ TK) _))
    (first | (go_at_call 98; refine (OWN.out _).mono ?_; rintro e w3 ⟨rfl, hb3⟩; replace TK := TK.trans (hb3.mono (ZZ.out _ TK)); clear hb3))
  have IS := Lib.hid (START.out w3 (B0.out.trans (TK.mono (by omega))) (ZZ.out _ TK))
  clear TK START TB B0 ZZ OWN hB hL
  go_wp2_with fail
  go_step3
  go_wp2_with fail
  go_loopg [5, 6] a.sz (fun g s5 s6 wx => ∃ (st : List Cp) (A1 : Option Addr) (c1 : Nat) (cs : List Pl), cpN st = g ∧ s5 = .bool true ∧ s6 = .slice A1 st.length c1 ∧ cpB st = R ∧ cpN st ≤ 1000 ∧ IsCs w wx st A1 c1 cs)
  case atStart => exact ⟨[⟨a, b, 1, id, id⟩], _, _, _, by simp [cpN], rfl, rfl, R0.out, by simpa [cpN] using hsz, IS.out⟩
  case round =>
    obtain ⟨wo, rfl⟩ : ∃ wo, wo = wr := ⟨_, rfl⟩
    obtain ⟨st, A1, c1, cs, rfl, rfl, rfl, hst, hfew, hS⟩ := hrel
    have SS := Lib.hid hS
    have HS := Lib.hid hst
    clear hS hst
    rcases List.eq_nil_or_concat st with rfl | ⟨st0, s, rfl⟩
    · have F : true = R := HS.out
      subst F
      have BB := Lib.hid SS.out.below
      go_wp2_with fail
      try rw [Exit.noGoto_ret]
      go_ret
      exact ⟨rfl, BB.out⟩
    · rw [List.concat_eq_append] at SS HS hfew ⊢
      obtain ⟨g, cs0, p, rfl, hg1, hg2, hcap, hS0, hTa, hTb, hgd, hrg⟩ := SS.out.pop
      have hlen := cpN_len (st0 ++ [s])
      have e : (st0 ++ [s]).length = st0.length + 1 := by simp
      rw [e] at hlen
      rw [e]
      have S0 := Lib.hid hS0
      have TA := Lib.hid hTa
      have TBb := Lib.hid hTb
      have GD := Lib.hid hgd
      have RG := Lib.hid hrg
      clear SS hS0 hTa hTb hgd hrg e
      obtain ⟨n, hn⟩ : ∃ n, n = st0.length := ⟨_, rfl⟩
      rw [← hn] at hcap hlen RG ⊢
      have HN := Lib.hid hn
      have hn1 : (0 : Int) < (n : Int) + 1 := by omega
      obtain ⟨X, hX⟩ : ∃ X, X = (s.row p).toArray := ⟨_, rfl⟩
      have XS : X.size = 135 := by rw [hX]; simp [Cp.row_len]
      have XO := Lib.hid (show X.all (·.oneCell') = true by rw [hX]; exact rowCp_one s p)
      have XL := Lib.hid (show X.toList = s.row p by rw [hX])
      have XC := Lib.hid (show IsC X s.a s.b p.A p.A' p.c p.c' (s.d : Int) s.f s.g from ⟨hX⟩)
      clear hX hn
      have XB := Lib.hid (show (wo.alloc (.cells X 120)).rangeAt wo.heap.size 0 X.toList by
        have := World.rangeAt_of_block (w := wo.alloc (.cells X 120)) (b := wo.heap.size) (heap_alloc_last wo (.cells X 120)) 0 X.size
        simpa using this)
      have IDS := Lib.hid (And.intro (fun h => cp_var GD.out.1 h) (fun h => cp_var GD.out.2.1 h))
      obtain ⟨ok, hok⟩ : ∃ ok, ok = agreeB s.a s.b s.f s.g := ⟨_, rfl⟩
      have ST := Lib.hid (show R = (cpB st0 && (ok && cpB (kidCp s))) by rw [← HS.out, cpB_append, cpB_step, hok])
      have AG := Lib.hid (fun w1 => agrees_any s.a s.b p.A p.A' p.c p.c' (s.d : Int) s.f s.g X XC.out IDS.out.1 IDS.out.2 w1)
      rw [← hok] at AG
      have HOK := Lib.hid hok
      clear hok
      cases ok
      · have F : R = false := by rw [ST.out]; simp
        subst F
        go_wp2_with (first
          | (refine wpList_load_mid rfl 120 _ rfl wo.heap.size 0 (by rfl) X.toList dC XB.out hdC.out hrC.out (by rw [HI.out, XL.out, Cp.row_len]) ?_)
          | (refine wpList_load_mid rfl 120 _ rfl g (n * 135) (by first | rfl | simp) X.toList dC (by rw [XL.out]; exact RG.out) hdC.out hrC.out (by rw [HI.out, XL.out, Cp.row_len]) ?_)
          | (refine wpList_store_new rfl 120 _ _ rfl Z X (by rfl) (by first | rfl | simp) (by rw [HI.out, XS]) (by rw [hZs, XS]) XO.out ?_)
          | (go_at_call 99; refine (AG.out _).mono ?_; rintro e w4 ⟨rfl, hb4⟩; replace hb4 := Lib.hid hb4))
        try rw [Exit.noGoto_ret]
        go_ret
        exact ⟨rfl, (S0.out.below.trans ((below_alloc' wo _).mono S0.out.below.size)).trans (hb4.out.mono (by have := S0.out.below.size; simp; omega))⟩
      · have F := Lib.hid (show R = cpB (st0 ++ kidCp s) by rw [ST.out, cpB_append]; simp)
        have x0 : X[0]? = some (.int .i64 s.a.k) := by rw [XC.out.eq]; simp [rowCp]
        have x1 : X[1]? = some (.int .i64 s.a.i) := by rw [XC.out.eq]; simp [rowCp]
        have x2 : X[2]? = some (.slice p.A s.a.ks.length p.c) := by rw [XC.out.eq]; simp [rowCp]
        have CELL := Lib.hid (fun (W : World) (h : Below (wo.heap.size + 1) (wo.alloc (.cells X 120)) W) j v (hj : X[j]? = some v) => show W.cell? ⟨wo.heap.size, j, none⟩ = some v by
          rw [h.cell (by simp), cell_of_row _ _ j X 120 (0, 0) (heap_alloc_last wo _)]; exact hj)
        obtain ⟨qB, hqB⟩ : ∃ qB, decide (s.a.k = 7 ∨ s.a.k = 10) = qB := ⟨_, rfl⟩
        replace hqB := Lib.hid hqB
        go_upto_if 35 with (first
          | (refine wpList_load_mid rfl 120 _ rfl wo.heap.size 0 (by rfl) X.toList dC XB.out hdC.out hrC.out (by rw [HI.out, XL.out, Cp.row_len]) ?_)
          | (refine wpList_load_mid rfl 120 _ rfl g (n * 135) (by first | rfl | simp) X.toList dC (by rw [XL.out]; exact RG.out) hdC.out hrC.out (by rw [HI.out, XL.out, Cp.row_len]) ?_)
          | (refine wpList_store_new rfl 120 _ _ rfl Z X (by rfl) (by first | rfl | simp) (by rw [HI.out, XS]) (by rw [hZs, XS]) XO.out ?_)
          | (go_at_call 99; refine (AG.out _).mono ?_; rintro e w4 ⟨rfl, hb4⟩
             replace hb4 : Below (wo.heap.size + 1) (wo.alloc (.cells X 120)) w4 := hb4.mono (by simp)
             have y0 := CELL.out w4 hb4 _ _ x0
             have y1 := CELL.out w4 hb4 _ _ x1
             have y2 := CELL.out w4 hb4 _ _ x2
             replace hb4 := Lib.hid hb4)
          | (go_at_call 86; refine (sIsQuant_any _ _ _ _ _ _).mono ?_; rintro e w5 ⟨rfl, hb5⟩; rw [hqB.out]; replace hb5 := Lib.hid hb5))
        have hs4 : wo.heap.size + 1 ≤ w4.heap.size := by have := hb4.out.size; simpa using this
        have BX : BoxC w wo w5 s p X st0 g c1 cs0 s.f s.g := ⟨((hb4.out.trans (hb5.out.mono hs4)).block wo.heap.size (by omega)).trans (heap_alloc_last wo _), XC.out, (S0.out.keep (below_alloc' wo (.cells X 120))).keep ((hb4.out.mono (by simp)).trans (hb5.out.mono (by simpa using hs4)))⟩
        replace BX := Lib.hid BX
        go_cut [] (fun wc => ∃ X2, BoxC w wo wc s p X2 st0 g c1 cs0 (subF s.a.k s.a.i s.d s.f) (subF s.a.k s.b.i s.d s.g))
        case first =>
          cases qB
          case true =>
            have hq : s.a.k = 7 ∨ s.a.k = 10 := by simpa using hqB.out
            have KE : s.a.k = s.b.k := by have := HOK.out; simp [agreeB] at this; exact this.1
            have hq' : s.b.k = 7 ∨ s.b.k = 10 := by rw [← KE]; exact hq
            obtain ⟨_, a0, a1⟩ := shp_quantified GD.out.1 hq
            obtain ⟨_, b0, b1⟩ := shp_quantified GD.out.2.1 hq'
            obtain ⟨ia, hia⟩ : ∃ n : Nat, s.a.i = (n : Int) := ⟨s.a.i.toNat, by omega⟩
            obtain ⟨ib, hib⟩ : ∃ n : Nat, s.b.i = (n : Int) := ⟨s.b.i.toNat, by omega⟩
            have hdd : (s.d : Int) ≤ 100 := by have h1 := GD.out.2.2.2; have h2 := dp_pos s.a; omega
            have hww : w.heap.size ≤ wo.heap.size := S0.out.below.size
            have E1 := Lib.hid (show subF s.a.k s.a.i s.d s.f = setF s.f (ia : Int) (63 + (s.d : Int)) by unfold subF; rw [if_pos hq, hia])
            have E2 := Lib.hid (show subF s.a.k s.b.i s.d s.g = setF s.g (ib : Int) (63 + (s.d : Int)) by unfold subF; rw [if_pos hq, hib])
            have B1 := Lib.hid (BX.out.putF hg2 hww ia (63 + (s.d : Int)) (by omega))
            have B2 := Lib.hid (B1.out.putG hg2 hww ib (63 + (s.d : Int)) (by omega))
            have c1' := BX.out.cell 1 _ (by simp [rowCp, hia]; rfl)
            have c6' := BX.out.cell 6 _ (by simp [rowCp]; rfl)
            have cf' := BX.out.cell (7 + ia) _ (rowCp_f _ _ _ _ _ _ _ _ _ (ia : Int) (by omega) (by omega))
            have ff' := BX.out.froz (7 + ia)
            have d4' := B1.out.cell 4 _ (by simp [rowCp, hib]; rfl)
            have d6' := B1.out.cell 6 _ (by simp [rowCp]; rfl)
            have dg' := B1.out.cell (71 + ib) _ (rowCp_g _ _ _ _ _ _ _ _ _ (ib : Int) (by omega) (by omega))
            have fg' := B1.out.froz (71 + ib)
            have a2 : (ia : Int) < 64 := by omega
            have b2 : (ib : Int) < 64 := by omega
            have wr1 : IntKind.i64.wrap (63 + (s.d : Int)) = 63 + (s.d : Int) := by rw [IntKind.wrap_i64]; omega
            replace hia := Lib.hid hia
            replace hib := Lib.hid hib
            replace hq := Lib.hid hq
            replace hq' := Lib.hid hq'
            clear KE y0 y1 y2
            go_wp2_with fail
            go_meet
            exact ⟨_, by rw [E1.out, E2.out]; exact B2.out⟩
          case false =>
            have hq : ¬ (s.a.k = 7 ∨ s.a.k = 10) := by simpa using hqB.out
            have E1 : subF s.a.k s.a.i s.d s.f = s.f := by unfold subF; rw [if_neg hq]
            have E2 : subF s.a.k s.b.i s.d s.g = s.g := by unfold subF; rw [if_neg hq]
            replace hq := Lib.hid hq
            replace E1 := Lib.hid E1
            replace E2 := Lib.hid E2
            go_wp2_with fail
            go_meet
            exact ⟨X, by rw [E1.out, E2.out]; exact BX.out⟩
        obtain ⟨X2, hcut⟩ := hcut
        have BC := Lib.hid hcut
        have KL := Lib.hid (show s.a.ks.length = s.b.ks.length by have := HOK.out; simp [agreeB] at this; exact this.2.1)
        have KT := Lib.hid (fun m hm => kidCp_take s KL.out m hm)
        have KK := Lib.hid (show (kidCp s).length = s.a.ks.length from kidCp_len s KL.out)
        obtain ⟨f2, hf2⟩ : ∃ f, f = subF s.a.k s.a.i s.d s.f := ⟨_, rfl⟩
        obtain ⟨g2, hg2'⟩ : ∃ f, f = subF s.a.k s.b.i s.d s.g := ⟨_, rfl⟩
        rw [← hf2, ← hg2'] at BC KT
        have k2 := isC_cell BC.out.box BC.out.isc 2 _ (by simp [rowCp]; rfl)
        have hkl := (kind_of_shp s.a GD.out.1).2.2.2.2
        have hdd : (s.d : Int) ≤ 100 := by have h1 := GD.out.2.2.2; have h2 := dp_pos s.a; omega
        have KG := Lib.hid (fun p q (hp : p ∈ s.a.ks) (hq : q ∈ s.b.ks) => kidCp_good GD.out hp hq f2 g2)
        obtain ⟨i0, z0, hi0, hz0, hz1, hz2, hz3⟩ := infoCpAll
        have HI0 := Lib.hid (And.intro hi0 (And.intro hz0 (And.intro hz1 (And.intro hz2 hz3))))
        have DRP := Lib.hid (show cpN (st0 ++ kidCp s) < cpN (st0 ++ [s]) by have := cpN_kids s; rw [cpN_append, cpN_append]; simp only [cpN, List.map_cons, List.map_nil, List.sum_cons, List.sum_nil] at *; omega)
        clear hf2 hg2' hcut BX hi0 hz0 hz1 hz2 hz3 x0 x1 x2 y0 y1 y2 AG CELL XB XO XL XC IDS ST
        go_wp2_with fail
        go_loopw [6, 56] (fun p6 i wx => ∃ (m : Nat) (A4 : Option Addr) (c4 : Nat) (cs4 : List Pl), m ≤ s.a.ks.length ∧ i = .int .i64 m ∧ p6 = .slice A4 (n + m) c4 ∧ IsCs w wx (st0 ++ (kidCp s).take m) A4 c4 cs4 ∧ wx.heap[wo.heap.size]? = some (.cells X2 120 (0, 0)) ∧ (∀ g', (Value.slice A4 (n + m) c4).ownBlock = some g' → g' ≠ wo.heap.size)) (fun _ i _ => s.a.ks.length - (intOf i).toNat)
        case atStart => exact ⟨0, _, _, _, Nat.zero_le _, rfl, rfl, by rw [List.take_zero, List.append_nil]; exact BC.out.stk, BC.out.box, fun g' e => by have : g = g' := (by simpa [Value.ownBlock] using e); omega⟩
        case round =>
          obtain ⟨m, A4, c4, cs4, hm', rfl, rfl, hSm, hbx, hgn⟩ := hrel
          have SM := Lib.hid hSm
          have GN := Lib.hid hgn
          have hll : (st0 ++ (kidCp s).take m).length = n + m := by rw [List.length_append, List.length_take, KK.out, ← HN.out]; omega
          have KA := Lib.hid (show K14 w wo X2 wr.drew from ⟨hbx, hSm.below.drew⟩)
          have KR := Lib.hid (show K14 w wo X2 wr from ⟨hbx, hSm.below⟩)
          have hown := hSm.own
          rw [hll] at hown
          have OWN := Lib.hid (fun (W : World) (h : Below wr.heap.size wr W) => ownsRow_same (hi := wr.heap.size) (w' := W) hown (fun k _ k2 => h.block k k2) (fun g e => (hown.lt g e).2))
          have OLT := Lib.hid hown.lt
          have PUSH := Lib.hid (fun (s : Cp) (w4 wy : World) (p : Pl) (g cap : Nat) => @IsCs.push w wr w4 _ s A4 c4 cs4 p g cap wy hSm)
          rw [hll] at PUSH
          clear hSm hgn hown k2
          by_cases hlt : m < s.a.ks.length
          · have hltb : m < s.b.ks.length := by have := KL.out; omega
            obtain ⟨b1, o1, A1, e1, hA1, hlt1, p0, p1, p2, hkT⟩ := TA.out.kid m hlt
            obtain ⟨b2, o2, A2, e2, hA2, hlt2, q0, q1, q2, hkT'⟩ := TBb.out.kid m hltb
            have KTm := Lib.hid (KT.out m hlt)
            have GQ := Lib.hid (KG.out s.a.ks[m] s.b.ks[m] (List.getElem_mem hlt) (List.getElem_mem hltb))
            obtain ⟨q, hq⟩ : ∃ q, q = s.a.ks[m] := ⟨_, rfl⟩
            obtain ⟨r, hr⟩ : ∃ q, q = s.b.ks[m] := ⟨_, rfl⟩
            rw [← hq] at p0 p1 p2 hkT KTm GQ
            rw [← hr] at q0 q1 q2 hkT' KTm GQ
            have HKT := Lib.hid hkT
            have HKT' := Lib.hid hkT'
            obtain ⟨F2, hF2⟩ : ∃ F, F = rowF f2 := ⟨_, rfl⟩
            obtain ⟨G2, hG2⟩ : ∃ F, F = rowF g2 := ⟨_, rfl⟩
            have hB : Try.prog.built 120 [(0, .agg #[.int .i64 q.k, .int .i64 q.i, .slice A1 q.ks.length e1]), (1, .agg #[.int .i64 r.k, .int .i64 r.i, .slice A2 r.ks.length e2]), (2, .int .i64 ((s.d + 1 : Nat) : Int)), (3, .agg (rowF f2).toArray), (4, .agg (rowF g2).toArray)] = some ((⟨q, r, s.d + 1, f2, g2⟩ : Cp).row ⟨A1, e1, A2, e2⟩).toArray := built_cp ⟨q, r, s.d + 1, f2, g2⟩ ⟨A1, e1, A2, e2⟩
            rw [show ((s.d + 1 : Nat) : Int) = (s.d : Int) + 1 by omega, ← hF2, ← hG2] at hB
            have hL : ((⟨q, r, s.d + 1, f2, g2⟩ : Cp).row ⟨A1, e1, A2, e2⟩).toArray.size = 135 := by simp [Cp.row_len]
            have hO := Lib.hid (rowCp_one ⟨q, r, s.d + 1, f2, g2⟩ ⟨A1, e1, A2, e2⟩)
            obtain ⟨Xn, hXn⟩ : ∃ X, X = ((⟨q, r, s.d + 1, f2, g2⟩ : Cp).row ⟨A1, e1, A2, e2⟩).toArray := ⟨_, rfl⟩
            rw [← hXn] at hB hL hO
            have XnL := Lib.hid (show Xn.toList = (⟨q, r, s.d + 1, f2, g2⟩ : Cp).row ⟨A1, e1, A2, e2⟩ by rw [hXn])
            have hiF : (Try.prog.info? 117).map (·.size) = some F2.length := by rw [hF2, rowF_len]; exact (zero_of_info infoNm).2
            have hiG : (Try.prog.info? 117).map (·.size) = some G2.length := by rw [hG2, rowF_len]; exact (zero_of_info infoNm).2
            have hArr := arrNm
            have wr1 : IntKind.i64.wrap ((s.d : Int) + 1) = (s.d : Int) + 1 := by rw [IntKind.wrap_i64]; omega
            have SUP := Lib.hid (fun W (h : K14 w wo X2 W) => show (W.cell? ⟨wo.heap.size, 2, none⟩ = some (.slice (some ⟨b1, o1, none⟩) s.a.ks.length p.c) ∧ W.cell? ⟨wo.heap.size, 5, none⟩ = some (.slice (some ⟨b2, o2, none⟩) s.b.ks.length p.c') ∧ W.cell? ⟨wo.heap.size, 6, none⟩ = some (.int .i64 (s.d : Int))) ∧ (W.rangeAt wo.heap.size 7 F2 ∧ W.rangeAt wo.heap.size 71 G2) from
              ⟨⟨isC_cell h.box BC.out.isc 2 _ (by simp [rowCp, hA1]), isC_cell h.box BC.out.isc 5 _ (by simp [rowCp, hA2]), isC_cell h.box BC.out.isc 6 _ (by simp [rowCp])⟩, ⟨by rw [hF2]; exact isC_rangeF h.box BC.out.isc, by rw [hG2]; exact isC_rangeG h.box BC.out.isc⟩⟩)
            have SUK := Lib.hid (fun W (h : K14 w wo X2 W) => And.intro (And.intro ((h.below.cell hlt1).trans p0) (And.intro ((h.below.cell hlt1).trans p1) ((h.below.cell hlt1).trans p2))) (And.intro ((h.below.cell hlt2).trans q0) (And.intro ((h.below.cell hlt2).trans q1) ((h.below.cell hlt2).trans q2))))
            have KB := Lib.hid (show K14 w wo X2 (wr.drew.alloc (.cells Xn 120)) from ⟨((below_alloc' wr.drew (.cells Xn 120)).block _ (Array.getElem?_eq_some_iff.1 KA.out.box).1).trans KA.out.box, KA.out.below.trans ((below_alloc' wr.drew _).mono KA.out.below.size)⟩)
            have bel := KR.out.below.size
            have hbl : wo.heap.size < wr.heap.size := (Array.getElem?_eq_some_iff.1 KR.out.box).1
            have BW := Lib.hid (show Below wr.heap.size wr (wr.drew.alloc (.cells Xn 120)) from ((Below.refl wr.heap.size wr).drew).trans (below_alloc' wr.drew _))
            replace hA1 := Lib.hid hA1
            replace hA2 := Lib.hid hA2
            replace hF2 := Lib.hid hF2
            replace hG2 := Lib.hid hG2
            replace hXn := Lib.hid hXn
            clear p0 p1 p2 q0 q1 q2 hkT hkT' hq hr hbx
            go_wp2_with fail
            obtain ⟨S14, hS14⟩ : ∃ S : World → Prop, S = (fun w' => ((w'.cell? ⟨wo.heap.size, 2, none⟩ = some (.slice (some ⟨b1, o1, none⟩) s.a.ks.length p.c) ∧ w'.cell? ⟨wo.heap.size, 5, none⟩ = some (.slice (some ⟨b2, o2, none⟩) s.b.ks.length p.c') ∧ w'.cell? ⟨wo.heap.size, 6, none⟩ = some (.int .i64 (s.d : Int))) ∧ (w'.rangeAt wo.heap.size 7 F2 ∧ w'.rangeAt wo.heap.size 71 G2)) ∧ ((w'.cell? ⟨b1, o1 + m * 3, none⟩ = some (.int .i64 q.k) ∧ w'.cell? ⟨b1, o1 + m * 3 + 1, none⟩ = some (.int .i64 q.i) ∧ w'.cell? ⟨b1, o1 + m * 3 + 2, none⟩ = some (.slice A1 q.ks.length e1)) ∧ (w'.cell? ⟨b2, o2 + m * 3, none⟩ = some (.int .i64 r.k) ∧ w'.cell? ⟨b2, o2 + m * 3 + 1, none⟩ = some (.int .i64 r.i) ∧ w'.cell? ⟨b2, o2 + m * 3 + 2, none⟩ = some (.slice A2 r.ks.length e2)))) := ⟨_, rfl⟩
            refine wp_region_held_drew (S := S14) (by kernel_rfl) (by rw [hS14]; exact ⟨SUP.out _ KA.out, SUK.out _ KA.out⟩) (fun hHeld => ?_)
            refine wpAnyH_take (i := 0) (oi := { dst := some 59, op := Op.move (Operand.tmp 6), type := 121, pos := "alpha.go:31", after := #[], guard := none }) (v := ?_) rfl (by kernel_rfl) (by kernel_rfl) (by kernel_rfl) (fun _ _ _ h => h) (Or.inl ⟨by rfl, ?_⟩) hHeld ?_
            rotate_left
            · intro w hSw; rw [hS14] at hSw; (try dsimp only at hSw); go_simp; (try with_reducible rfl)
            (try simp only [Act.put, List.setIfInBounds_toArray, List.set_cons_zero, List.set_cons_succ])
            refine wpAnyH_take (i := 1) (oi := { dst := some 60, op := Op.fieldAddr 120 (Operand.tmp 7) 0, type := 0, pos := "alpha.go:31", after := #[], guard := none }) (v := ?_) rfl (by kernel_rfl) (by kernel_rfl) (by kernel_rfl) (fun _ _ _ h => h) (Or.inl ⟨by rfl, ?_⟩) hHeld ?_
            rotate_left
            · intro w hSw; rw [hS14] at hSw; (try dsimp only at hSw); go_simp; (try with_reducible rfl)
            (try simp only [Act.put, List.setIfInBounds_toArray, List.set_cons_zero, List.set_cons_succ])
            refine wpAnyH_take (i := 2) (oi := { dst := some 61, op := Op.fieldAddr 24 (Operand.tmp 60) 2, type := 0, pos := "alpha.go:31", after := #[{ on := 1, ground := Ground.data }], guard := none }) (v := ?_) rfl (by kernel_rfl) (by kernel_rfl) (by kernel_rfl) (fun _ _ _ h => h) (Or.inl ⟨by rfl, ?_⟩) hHeld ?_
            rotate_left
            · intro w hSw; rw [hS14] at hSw; (try dsimp only at hSw); go_simp; (try with_reducible rfl)
            (try simp only [Act.put, List.setIfInBounds_toArray, List.set_cons_zero, List.set_cons_succ])
            refine wpAnyH_take (i := 3) (oi := { dst := some 62, op := Op.load 22 (Operand.tmp 61), type := 22, pos := "alpha.go:31", after := #[{ on := 2, ground := Ground.data }], guard := none }) (v := ?_) rfl (by kernel_rfl) (by kernel_rfl) (by kernel_rfl) (fun _ _ _ h => h) (Or.inl ⟨by rfl, ?_⟩) hHeld ?_
            rotate_left
            · intro w hSw; rw [hS14] at hSw; (try dsimp only at hSw); go_simp; (try with_reducible rfl)
            (try simp only [Act.put, List.setIfInBounds_toArray, List.set_cons_zero, List.set_cons_succ])
            refine wpAnyH_take (i := 4) (oi := { dst := some 63, op := Op.move (Operand.tmp 8), type := 3, pos := "alpha.go:31", after := #[], guard := none }) (v := ?_) rfl (by kernel_rfl) (by kernel_rfl) (by kernel_rfl) (fun _ _ _ h => h) (Or.inl ⟨by rfl, ?_⟩) hHeld ?_
            rotate_left
            · intro w hSw; rw [hS14] at hSw; (try dsimp only at hSw); go_simp; (try with_reducible rfl)
            (try simp only [Act.put, List.setIfInBounds_toArray, List.set_cons_zero, List.set_cons_succ])
            refine wpAnyH_take (i := 5) (oi := { dst := some 64, op := Op.indexAddr 22 (Operand.tmp 62) (Operand.tmp 63), type := 0, pos := "alpha.go:31", after := #[{ on := 3, ground := Ground.data }, { on := 4, ground := Ground.data }], guard := none }) (v := ?_) rfl (by kernel_rfl) (by kernel_rfl) (by kernel_rfl) (fun _ _ _ h => h) (Or.inl ⟨by rfl, ?_⟩) hHeld ?_
            rotate_left
            · intro w hSw; rw [hS14] at hSw; (try dsimp only at hSw); go_simp; (try with_reducible rfl)
            (try simp only [Act.put, List.setIfInBounds_toArray, List.set_cons_zero, List.set_cons_succ])
            refine wpAnyH_take (i := 6) (oi := { dst := some 65, op := Op.load 24 (Operand.tmp 64), type := 24, pos := "alpha.go:31", after := #[{ on := 5, ground := Ground.data }], guard := none }) (v := ?_) rfl (by kernel_rfl) (by kernel_rfl) (by kernel_rfl) (fun _ _ _ h => h) (Or.inl ⟨by rfl, ?_⟩) hHeld ?_
            rotate_left
            · intro w hSw; rw [hS14] at hSw; (try dsimp only at hSw); go_simp; (try with_reducible rfl)
            (try simp only [Act.put, List.setIfInBounds_toArray, List.set_cons_zero, List.set_cons_succ])
            refine wpAnyH_take (i := 7) (oi := { dst := some 66, op := Op.fieldAddr 120 (Operand.tmp 7) 1, type := 0, pos := "alpha.go:31", after := #[], guard := none }) (v := ?_) rfl (by kernel_rfl) (by kernel_rfl) (by kernel_rfl) (fun _ _ _ h => h) (Or.inl ⟨by rfl, ?_⟩) hHeld ?_
            rotate_left
            · intro w hSw; rw [hS14] at hSw; (try dsimp only at hSw); go_simp; (try with_reducible rfl)
            (try simp only [Act.put, List.setIfInBounds_toArray, List.set_cons_zero, List.set_cons_succ])
            refine wpAnyH_take (i := 8) (oi := { dst := some 67, op := Op.fieldAddr 24 (Operand.tmp 66) 2, type := 0, pos := "alpha.go:31", after := #[{ on := 7, ground := Ground.data }], guard := none }) (v := ?_) rfl (by kernel_rfl) (by kernel_rfl) (by kernel_rfl) (fun _ _ _ h => h) (Or.inl ⟨by rfl, ?_⟩) hHeld ?_
            rotate_left
            · intro w hSw; rw [hS14] at hSw; (try dsimp only at hSw); go_simp; (try with_reducible rfl)
            (try simp only [Act.put, List.setIfInBounds_toArray, List.set_cons_zero, List.set_cons_succ])
            refine wpAnyH_take (i := 9) (oi := { dst := some 68, op := Op.load 22 (Operand.tmp 67), type := 22, pos := "alpha.go:31", after := #[{ on := 8, ground := Ground.data }], guard := none }) (v := ?_) rfl (by kernel_rfl) (by kernel_rfl) (by kernel_rfl) (fun _ _ _ h => h) (Or.inl ⟨by rfl, ?_⟩) hHeld ?_
            rotate_left
            · intro w hSw; rw [hS14] at hSw; (try dsimp only at hSw); go_simp; (try with_reducible rfl)
            (try simp only [Act.put, List.setIfInBounds_toArray, List.set_cons_zero, List.set_cons_succ])
            refine wpAnyH_take (i := 10) (oi := { dst := some 69, op := Op.move (Operand.tmp 8), type := 3, pos := "alpha.go:31", after := #[], guard := none }) (v := ?_) rfl (by kernel_rfl) (by kernel_rfl) (by kernel_rfl) (fun _ _ _ h => h) (Or.inl ⟨by rfl, ?_⟩) hHeld ?_
            rotate_left
            · intro w hSw; rw [hS14] at hSw; (try dsimp only at hSw); go_simp; (try with_reducible rfl)
            (try simp only [Act.put, List.setIfInBounds_toArray, List.set_cons_zero, List.set_cons_succ])
            refine wpAnyH_take (i := 11) (oi := { dst := some 70, op := Op.indexAddr 22 (Operand.tmp 68) (Operand.tmp 69), type := 0, pos := "alpha.go:31", after := #[{ on := 9, ground := Ground.data }, { on := 10, ground := Ground.data }], guard := none }) (v := ?_) rfl (by kernel_rfl) (by kernel_rfl) (by kernel_rfl) (fun _ _ _ h => h) (Or.inl ⟨by rfl, ?_⟩) hHeld ?_
            rotate_left
            · intro w hSw; rw [hS14] at hSw; (try dsimp only at hSw); go_simp; (try with_reducible rfl)
            (try simp only [Act.put, List.setIfInBounds_toArray, List.set_cons_zero, List.set_cons_succ])
            refine wpAnyH_take (i := 12) (oi := { dst := some 71, op := Op.load 24 (Operand.tmp 70), type := 24, pos := "alpha.go:31", after := #[{ on := 11, ground := Ground.data }], guard := none }) (v := ?_) rfl (by kernel_rfl) (by kernel_rfl) (by kernel_rfl) (fun _ _ _ h => h) (Or.inl ⟨by rfl, ?_⟩) hHeld ?_
            rotate_left
            · intro w hSw; rw [hS14] at hSw; (try dsimp only at hSw); go_simp; (try with_reducible rfl)
            (try simp only [Act.put, List.setIfInBounds_toArray, List.set_cons_zero, List.set_cons_succ])
            refine wpAnyH_take (i := 13) (oi := { dst := some 72, op := Op.fieldAddr 120 (Operand.tmp 7) 2, type := 0, pos := "alpha.go:31", after := #[], guard := none }) (v := ?_) rfl (by kernel_rfl) (by kernel_rfl) (by kernel_rfl) (fun _ _ _ h => h) (Or.inl ⟨by rfl, ?_⟩) hHeld ?_
            rotate_left
            · intro w hSw; rw [hS14] at hSw; (try dsimp only at hSw); go_simp; (try with_reducible rfl)
            (try simp only [Act.put, List.setIfInBounds_toArray, List.set_cons_zero, List.set_cons_succ])
            refine wpAnyH_take (i := 14) (oi := { dst := some 73, op := Op.load 3 (Operand.tmp 72), type := 3, pos := "alpha.go:31", after := #[{ on := 13, ground := Ground.data }], guard := none }) (v := ?_) rfl (by kernel_rfl) (by kernel_rfl) (by kernel_rfl) (fun _ _ _ h => h) (Or.inl ⟨by rfl, ?_⟩) hHeld ?_
            rotate_left
            · intro w hSw; rw [hS14] at hSw; (try dsimp only at hSw); go_simp; (try with_reducible rfl)
            (try simp only [Act.put, List.setIfInBounds_toArray, List.set_cons_zero, List.set_cons_succ])
            refine wpAnyH_take (i := 15) (oi := { dst := some 74, op := Op.binOp BinOp.add 3 (Operand.tmp 73) (Operand.const (Value.int IntKind.i64 1)) 3, type := 3, pos := "alpha.go:31", after := #[{ on := 14, ground := Ground.data }], guard := none }) (v := ?_) rfl (by kernel_rfl) (by kernel_rfl) (by kernel_rfl) (fun _ _ _ h => h) (Or.inl ⟨by rfl, ?_⟩) hHeld ?_
            rotate_left
            · intro w hSw; rw [hS14] at hSw; (try dsimp only at hSw); go_simp; (try with_reducible rfl)
            (try simp only [Act.put, List.setIfInBounds_toArray, List.set_cons_zero, List.set_cons_succ])
            refine wpAnyH_take (i := 16) (oi := { dst := some 75, op := Op.fieldAddr 120 (Operand.tmp 7) 3, type := 0, pos := "alpha.go:31", after := #[], guard := none }) (v := ?_) rfl (by kernel_rfl) (by kernel_rfl) (by kernel_rfl) (fun _ _ _ h => h) (Or.inl ⟨by rfl, ?_⟩) hHeld ?_
            rotate_left
            · intro w hSw; rw [hS14] at hSw; (try dsimp only at hSw); go_simp; (try with_reducible rfl)
            (try simp only [Act.put, List.setIfInBounds_toArray, List.set_cons_zero, List.set_cons_succ])
            refine wpAnyH_take (i := 17) (oi := { dst := some 76, op := Op.load 117 (Operand.tmp 75), type := 117, pos := "alpha.go:31", after := #[{ on := 16, ground := Ground.data }], guard := none }) (v := .agg F2.toArray) rfl (by kernel_rfl) (by kernel_rfl) (by kernel_rfl) (fun _ _ _ h => h) (yieldsIf_load_mid (by rfl) _ _ rfl _ _ rfl F2 _ (fun w hSw => by rw [hS14] at hSw; exact hSw.1.2.1) hArr rfl hiF) hHeld ?_
            (try simp only [Act.put, List.setIfInBounds_toArray, List.set_cons_zero, List.set_cons_succ])
            refine wpAnyH_take (i := 18) (oi := { dst := some 77, op := Op.fieldAddr 120 (Operand.tmp 7) 4, type := 0, pos := "alpha.go:31", after := #[], guard := none }) (v := ?_) rfl (by kernel_rfl) (by kernel_rfl) (by kernel_rfl) (fun _ _ _ h => h) (Or.inl ⟨by rfl, ?_⟩) hHeld ?_
            rotate_left
            · intro w hSw; rw [hS14] at hSw; (try dsimp only at hSw); go_simp; (try with_reducible rfl)
            (try simp only [Act.put, List.setIfInBounds_toArray, List.set_cons_zero, List.set_cons_succ])
            refine wpAnyH_take (i := 19) (oi := { dst := some 78, op := Op.load 117 (Operand.tmp 77), type := 117, pos := "alpha.go:31", after := #[{ on := 18, ground := Ground.data }], guard := none }) (v := .agg G2.toArray) rfl (by kernel_rfl) (by kernel_rfl) (by kernel_rfl) (fun _ _ _ h => h) (yieldsIf_load_mid (by rfl) _ _ rfl _ _ rfl G2 _ (fun w hSw => by rw [hS14] at hSw; exact hSw.1.2.2) hArr rfl hiG) hHeld ?_
            (try simp only [Act.put, List.setIfInBounds_toArray, List.set_cons_zero, List.set_cons_succ])
            refine wpAnyH_take (i := 20) (oi := { dst := some 79, op := Op.build 120 #[(0, Operand.tmp 65), (1, Operand.tmp 71), (2, Operand.tmp 74), (3, Operand.tmp 76), (4, Operand.tmp 78)], type := 120, pos := "alpha.go:31", after := #[{ on := 6, ground := Ground.data }, { on := 12, ground := Ground.data }, { on := 15, ground := Ground.data }, { on := 17, ground := Ground.data }, { on := 19, ground := Ground.data }], guard := none }) (v := ?_) rfl (by kernel_rfl) (by kernel_rfl) (by kernel_rfl) (fun _ _ _ h => h) (Or.inl ⟨by rfl, ?_⟩) hHeld ?_
            rotate_left
            · intro w hSw; rw [hS14] at hSw; (try dsimp only at hSw); go_simp; (try with_reducible rfl)
            (try simp only [Act.put, List.setIfInBounds_toArray, List.set_cons_zero, List.set_cons_succ])
            refine wpAnyH_ready (rs := [21]) (by kernel_rfl) (by simp) ?_
            refine AllReadyH.cons (o := { dst := some 80, op := Op.buildSlice 121 1 #[(0, Operand.tmp 79)], type := 121, pos := "alpha.go:31", after := #[{ on := 20, ground := Ground.data }], guard := none }) rfl (fun K hK => ?_) AllReadyH.nil
            go_simp
            refine hK.out _ _ ?_ (fun hHeld => ?_)
            · rw [hS14]; exact ⟨SUP.out _ KB.out, SUK.out _ KB.out⟩
            clear hK K
            (try simp only [Act.put, List.setIfInBounds_toArray, List.set_cons_zero, List.set_cons_succ])
            refine wpAnyH_ready (rs := [22]) (by kernel_rfl) (by simp) ?_
            refine AllReadyH.cons (o := { dst := some 81, op := Op.call { callee := Callee.builtin Builtin.append, args := #[Operand.tmp 59, Operand.tmp 80], argTypes := #[121, 121] }, type := 121, pos := "alpha.go:31", after := #[{ on := 0, ground := Ground.data }, { on := 21, ground := Ground.data }], guard := none }) rfl (fun K hK => ?_) AllReadyH.nil
            refine step_append_lies _ rfl _ _ _ rfl (w.heap.size + 2) 120 i0 z0 135 1112 sliceCp HI0.out.1 HI0.out.2.1 HI0.out.2.2.1 HI0.out.2.2.2.1 HI0.out.2.2.2.2 (by omega) (.slice A4 (n + m) c4) (n + m) (rowCs (st0 ++ (kidCp s).take m) cs4) (by rfl) (by exact OWN.out _ BW.out) ⟨wr.heap.size, 0, none⟩ 1 1 Xn.toList (by rfl) (by simp [hL]) (by exact World.news_of_block (heap_alloc_last wr.drew (.cells Xn 120))) (by intro u hu; exact (Array.all_eq_true_iff_forall_mem.1 hO.out) u (by simpa using hu)) (by omega) (by unfold maxLen; omega) (by omega) (by simp; omega) (wr.heap.size + 1) (by simp) ?_
            intro g4 cap4 w4' hown4 hgrow hat hlt4
            have K4 := Lib.hid (show K14 w wo X2 w4' from ⟨(hgrow.block _ (by simp; omega) (fun e => GN.out _ e.symm rfl)).trans KB.out.box, KB.out.below.grown hgrow (by simp; omega) (fun k e => by have := (OLT.out _ e).1; omega)⟩)
            rw [XnL.out] at hown4
            have HO4 := Lib.hid hown4
            have HG4 := Lib.hid hgrow
            have HAT := Lib.hid hat
            clear hown4 hgrow hat
            refine hK.out _ _ ?_ (fun hHeld => ?_)
            · rw [hS14]; exact ⟨SUP.out _ K4.out, SUK.out _ K4.out⟩
            clear hK K
            (try simp only [Act.put, List.setIfInBounds_toArray, List.set_cons_zero, List.set_cons_succ])
            refine wpAnyH_take (i := 23) (oi := { dst := some 6, op := Op.assign (Operand.tmp 81), type := 121, pos := "alpha.go:31", after := #[{ on := 22, ground := Ground.data }, { on := 22, ground := Ground.chain }, { on := 0, ground := Ground.phase }, { on := 1, ground := Ground.phase }, { on := 2, ground := Ground.phase }, { on := 3, ground := Ground.phase }, { on := 4, ground := Ground.phase }, { on := 5, ground := Ground.phase }, { on := 6, ground := Ground.phase }, { on := 7, ground := Ground.phase }, { on := 8, ground := Ground.phase }, { on := 9, ground := Ground.phase }, { on := 10, ground := Ground.phase }, { on := 11, ground := Ground.phase }, { on := 12, ground := Ground.phase }, { on := 13, ground := Ground.phase }, { on := 14, ground := Ground.phase }, { on := 15, ground := Ground.phase }, { on := 16, ground := Ground.phase }, { on := 17, ground := Ground.phase }, { on := 18, ground := Ground.phase }, { on := 19, ground := Ground.phase }, { on := 20, ground := Ground.phase }, { on := 21, ground := Ground.phase }, { on := 22, ground := Ground.phase }], guard := none }) (v := ?_) rfl (by kernel_rfl) (by kernel_rfl) (by kernel_rfl) (fun _ _ _ h => h) (Or.inl ⟨by rfl, ?_⟩) hHeld ?_
            rotate_left
            · intro w hSw; rw [hS14] at hSw; (try dsimp only at hSw); go_simp; (try with_reducible rfl)
            (try simp only [Act.put, List.setIfInBounds_toArray, List.set_cons_zero, List.set_cons_succ])
            refine wpAnyH_done (by kernel_rfl) ?_ _
            have NS := Lib.hid (PUSH.out ⟨q, r, s.d + 1, f2, g2⟩ w4' _ ⟨A1, e1, A2, e2⟩ g4 cap4 HKT.out HKT'.out GQ.out BW.out HO4.out HG4.out)
            have NG := Lib.hid (show ∀ g', (Value.slice (some ⟨g4, 0, none⟩) (n + (m + 1)) cap4).ownBlock = some g' → g' ≠ wo.heap.size from fun g' e => by
              obtain rfl : g4 = g' := by simpa [Value.ownBlock] using e
              rcases HAT.out with h | h
              · exact GN.out _ h
              · omega)
            go_wp2_with fail
            go_roundw
            case rel => exact ⟨m + 1, _, _, _, by omega, by go_num, rfl, by rw [KTm.out, ← List.append_assoc]; exact NS.out, K4.out.box, NG.out⟩
            case measure => simp [intOf]; omega
          · obtain rfl : m = s.a.ks.length := by omega
            have KF := Lib.hid (show (kidCp s).take s.a.ks.length = kidCp s from List.take_of_length_le (by rw [KK.out]; exact Nat.le_refl _))
            rw [KF.out] at SM hll
            have hfew2 : cpN (st0 ++ kidCp s) ≤ 1000 := by have := DRP.out; omega
            go_wp2_with fail
            go_roundg (cpN (st0 ++ kidCp s))
            case measure => rw [List.concat_eq_append]; exact DRP.out
            case rel => exact ⟨st0 ++ kidCp s, _, _, _, rfl, rfl, by rw [hll], F.out.symm, hfew2, SM.out⟩
end Go.Proofs.Ytfdggmmibgbfnaa
