/- The document's with. -/
import Derived.Test.YtdobpdedphkglaaE27
import Derived.Test.YtdobpdedphkglaaE20
namespace Go.Proofs.Ytdobpdedphkglaa
open Go.RowKit
/-- one more kid is laid, whatever was made between -/
theorem Lay.stepG {w wr w1 wx w4 : World} {S base b : Nat} {x y : Value} {ts : List Tr} {q : Tr} {A1 : Option Addr} {c1 : Nat} {cs : List (Option Addr × Nat)} (h : Lay w wr S base b x y ts A1 c1 cs)
    (hw1 : Below wr.heap.size wr w1) {A2 : Option Addr} {c2 : Nat} (hq : OwnT w1 wr.heap.size w1.heap.size q A2 c2) (hwx : Below w1.heap.size w1 wx) {g cap : Nat}
    (hown : w4.ownsRow base 24 3 (.slice (some ⟨g, 0, none⟩) (ts.length + 1) cap) (ts.length + 1) (rowC ts cs ++ [.int .i64 q.k, .int .i64 q.i, .slice A2 q.ks.length c2])) (hg : wx.grownBy w4 (Value.slice A1 ts.length c1).ownBlock)
    (hat : (Value.slice A1 ts.length c1).ownBlock = some g ∨ g = wx.heap.size) :
    Lay w (w4.setCell ⟨b, 2, none⟩ (.slice (some ⟨g, 0, none⟩) (ts.length + 1) cap)) S base b x y (ts ++ [q]) (some ⟨g, 0, none⟩) cap (cs ++ [(A2, c2)]) := by
  have hlt := h.own.lt
  have hsz1 := hw1.size
  have hszx := hwx.size
  have hsz4 := hg.size
  have hbl := h.box.lt
  have hlo := h.lo
  have hne : ∀ k, (Value.slice A1 ts.length c1).ownBlock = some k → base ≤ k ∧ k < wr.heap.size := hlt
  have lb := h.lb
  have hgb := (hown.lt g rfl).1
  have old : ∀ k, k < w1.heap.size → (Value.slice A1 ts.length c1).ownBlock ≠ some k → k ≠ b → (w4.setCell ⟨b, 2, none⟩ (.slice (some ⟨g, 0, none⟩) (ts.length + 1) cap)).heap[k]? = w1.heap[k]? := by
    intro k hk h1 h2
    rw [heap_setCell_other _ _ _ _ h2, hg.block k (by omega) (fun e => h1 e.symm), hwx.block k hk]
  have old0 : ∀ k, k < wr.heap.size → w1.heap[k]? = wr.heap[k]? := fun k hk => hw1.block k hk
  have el : (ts ++ [q]).length = ts.length + 1 := by simp
  refine ⟨?_, by simp [h.len], ?_, h.lo, h.lb, ?_, ?_⟩
  · refine ⟨?_, ?_, ?_, ?_, ?_⟩
    · exact (show w4.os = _ from hg.os).trans (hwx.os.trans (hw1.os.trans h.below.os))
    · exact (show w4.tape = _ from hg.tape).trans (hwx.tape.trans (hw1.tape.trans h.below.tape))
    · exact (show w4.output = _ from hg.output).trans (hwx.output.trans (hw1.output.trans h.below.output))
    · have := h.below.size; simp; omega
    · intro k hk
      rw [old k (by omega) (fun e => by have := hne k e; omega) (by omega), old0 k (by omega), h.below.block k hk]
  · have b1 : Box3 w1 b x y (.slice A1 ts.length c1) := (old0 b hbl).trans h.box
    have b2 : Box3 w4 b x y (.slice A1 ts.length c1) := by
      refine (hg.block b (by omega) (fun e => ?_)).trans ?_
      · have := hne b e.symm; omega
      · rw [hwx.block b (by omega)]; exact b1
    rw [el]
    exact b2.set2 _
  · rw [el, rowC_snoc _ _ _ _ _ h.len]
    exact ownsRow_same (hi := w4.heap.size) hown (fun k k1 k2 => heap_setCell_other _ _ _ _ (by show k ≠ b; omega)) (fun k e => (hown.lt k e).2)
  · rw [el]
    have k1 : OwnL (w4.setCell ⟨b, 2, none⟩ (.slice (some ⟨g, 0, none⟩) (ts.length + 1) cap)) (Value.slice (some ⟨g, 0, none⟩) (ts.length + 1) cap).ownBlock base wr.heap.size ts cs := by
      refine OwnL.same _ _ (fun k k1 k2 k3 => ?_) (fun l1 h1 hl hh ha => ?_) h.kids
      · rw [old k (by omega) k3 (by omega), old0 k k2]
      · intro g' e
        obtain rfl : g = g' := by simpa [Value.ownBlock] using e
        rcases hat with e | e
        · exact ha g e
        · omega
    have k2 : OwnT (w4.setCell ⟨b, 2, none⟩ (.slice (some ⟨g, 0, none⟩) (ts.length + 1) cap)) wr.heap.size w1.heap.size q A2 c2 :=
      OwnT.same _ (fun k k1 k2 => old k k2 (fun e => by have := hne k e; omega) (by omega)) hq
    refine (OwnL.snoc h.len k1 hsz1 ?_ k2).widen (by simp; omega)
    intro g' e
    obtain rfl : g = g' := by simpa [Value.ownBlock] using e
    rcases hat with e | e
    · have := hne g e; omega
    · omega
theorem four_boxes (w : World) (x y z x' y' z' x'' y'' z'' u v s : Value) :
    Box3 ((((w.alloc (.cells #[x, y, z] 24)).alloc (.cells #[x', y', z'] 24)).alloc (.cells #[x'', y'', z''] 24)).alloc (.cells #[u, v, s] 24)) (w.heap.size + 1) x' y' z' ∧
    Box3 ((((w.alloc (.cells #[x, y, z] 24)).alloc (.cells #[x', y', z'] 24)).alloc (.cells #[x'', y'', z''] 24)).alloc (.cells #[u, v, s] 24)) (w.heap.size + 2) x'' y'' z'' ∧
    Box3 ((((w.alloc (.cells #[x, y, z] 24)).alloc (.cells #[x', y', z'] 24)).alloc (.cells #[x'', y'', z''] 24)).alloc (.cells #[u, v, s] 24)) (w.heap.size + 3) u v s ∧
    Below w.heap.size w ((((w.alloc (.cells #[x, y, z] 24)).alloc (.cells #[x', y', z'] 24)).alloc (.cells #[x'', y'', z''] 24)).alloc (.cells #[u, v, s] 24)) := by
  obtain ⟨_, h1, h2, hb⟩ := three_boxes w x y z x' y' z' x'' y'' z''
  have hb2 : Below (w.heap.size + 3) (((w.alloc (.cells #[x, y, z] 24)).alloc (.cells #[x', y', z'] 24)).alloc (.cells #[x'', y'', z''] 24)) ((((w.alloc (.cells #[x, y, z] 24)).alloc (.cells #[x', y', z'] 24)).alloc (.cells #[x'', y'', z''] 24)).alloc (.cells #[u, v, s] 24)) := (Below.refl _ _).alloc (by simp) _
  refine ⟨h1.keep hb2 (by omega), h2.keep hb2 (by omega), ?_, hb.trans (hb2.mono (by omega))⟩
  have := Box3.new (((w.alloc (.cells #[x, y, z] 24)).alloc (.cells #[x', y', z'] 24)).alloc (.cells #[x'', y'', z''] 24)) u v s
  simpa using this
/-- what a round of with holds, where the part is to be put -/
structure Wk (wr W : World) (S yb : Nat) (zt : Tr) (Az : Option Addr) (cz : Nat) (q : Tr) (A : Option Addr) (c : Nat) (x : Tr) (Ax : Option Addr) (cx : Nat) (A1 : Option Addr) (zs : List Int) : Prop where
  kid : Box3 W wr.heap.size (.int .i64 q.k) (.int .i64 q.i) (.slice A q.ks.length c)
  xb : Box3 W (S + 1) (.int .i64 x.k) (.int .i64 x.i) (.slice Ax x.ks.length cx)
  yb : Box3 W yb (.int .i64 zt.k) (.int .i64 zt.i) (.slice Az zt.ks.length cz)
  isT : IsT W W.heap.size q A c
  isX : IsT W W.heap.size x Ax cx
  path : Rd .i64 W W.heap.size A1 zs
  below : Below wr.heap.size wr W
theorem Wk.keep {wr W W' : World} {S yb : Nat} {zt : Tr} {Az : Option Addr} {cz : Nat} {q : Tr} {A : Option Addr} {c : Nat} {x : Tr} {Ax : Option Addr} {cx : Nat} {A1 : Option Addr} {zs : List Int} (h : Wk wr W S yb zt Az cz q A c x Ax cx A1 zs) (hb : Below W.heap.size W W') : Wk wr W' S yb zt Az cz q A c x Ax cx A1 zs :=
  ⟨h.kid.keep hb h.kid.lt, h.xb.keep hb h.xb.lt, h.yb.keep hb h.yb.lt, h.isT.keep hb hb.size, h.isX.keep hb hb.size, h.path.upZ hb, h.below.trans (hb.mono h.below.size)⟩
theorem news1 (w : World) (x y z : Value) (t : TypeId) (j : Nat) (u : Value) (h : [x, y, z][j]? = some u) : (w.alloc (.cells #[x, y, z] t)).cell? ((⟨w.heap.size, 0, none⟩ : Addr).add j) = some u := by
  have e2 : (⟨w.heap.size, 0, none⟩ : Addr).add j = ⟨w.heap.size, j, none⟩ := by unfold Addr.add; split <;> simp_all
  rw [e2, cell_new3]
  simpa using h
set_option maxRecDepth 100000 in
set_option maxHeartbeats 8000000 in
theorem treeWith_any (x : Tr) (Ax : Option Addr) (cx : Nat) : ∀ (zs : List Int) (t q : Tr) (A : Option Addr) (c : Nat) (A1 : Option Addr) (n cap : Nat) (w : World), zs.length = n → n ≤ cap → partAt t zs = some q → IsT w w.heap.size t A c → IsT w w.heap.size x Ax cx → Rd .i64 w w.heap.size A1 zs →
    Calls Try.prog 37 #[.agg #[.int .i64 t.k, .int .i64 t.i, .slice A t.ks.length c], .slice A1 n cap, .agg #[.int .i64 x.k, .int .i64 x.i, .slice Ax x.ks.length cx]] w (NewT w (putAt x t zs)) := by
  intro zs
  induction zs with
  | nil =>
    intro t q A c A1 n cap w hn hc hp ht hx hr
    obtain rfl : n = 0 := by simpa using hn.symm
    obtain ⟨e0, e1, e2, hb0⟩ := three_boxes w (.int .i64 t.k) (.int .i64 t.i) (.slice A t.ks.length c) (.int .i64 x.k) (.int .i64 x.i) (.slice Ax x.ks.length cx) (.int .i64 0) (.int .i64 0) (.slice none 0 0)
    have HX := Lib.hid (hx.keep hb0 hb0.size)
    have E2 := Lib.hid e2
    have HB0 := Lib.hid hb0
    have P := Lib.hid (putAt_nil x t)
    clear ht hx hr hp hn hc e0 e1 e2 hb0
    go_enter Try.func37, Try.ntmps37
    go_wp2_with fail
    refine (copy_any x.sz x Ax cx _ (Nat.le_refl _) (by exact HX.out)).mono ?_
    rintro e w1 ⟨A3, c3, rfl, ho, hb1⟩
    have X2 := E2.out.keep hb1 E2.out.lt
    obtain ⟨y0, y1, y2⟩ := X2.cells
    have f0 := X2.frozen 0
    have f1 := X2.frozen 1
    have f2 := X2.frozen 2
    have BR := Lib.hid (HB0.out.trans (hb1.mono HB0.out.size))
    have HO := Lib.hid ho
    clear ho hb1 X2
    go_wp2_with fail
    refine bodyPost_ret (v := .agg #[.int .i64 x.k, .int .i64 x.i, .slice A3 x.ks.length c3]) (by simp [results, Try.results37, go_sem, y0, y1, y2]) rfl ?_
    rw [P.out]
    refine ⟨A3, c3, rfl, ?_, below_set3 BR.out _ _ _ (by omega)⟩
    have hs : SameIn (w.heap.size + 3) w1.heap.size w1 (((w1.setCell ⟨w.heap.size + 2, 0, none⟩ (.int .i64 x.k)).setCell ⟨w.heap.size + 2, 1, none⟩ (.int .i64 x.i)).setCell ⟨w.heap.size + 2, 2, none⟩ (.slice A3 x.ks.length c3)) := same_set3 _ _ _ _ _ (by omega)
    have h3 := HO.out
    simp only [World.size_alloc] at h3
    have := (OwnT.same _ hs h3).lower (lo' := w.heap.size) (by omega)
    simpa using this
  | cons z r ih =>
    intro t q A c A1 n cap w hn hc hp ht hx hr
    have IH := Lib.hid ih
    obtain ⟨m0, rfl, hm0, hp'⟩ := partAt_some hp
    have P := Lib.hid (putAt_in x t m0 r hm0)
    obtain ⟨ad, rfl, hadl, hc0⟩ := hr 0 (by simp)
    simp only [List.getD_cons_zero, Addr.add, if_true] at hc0
    have HR := Lib.hid hr
    have HT := Lib.hid ht
    have HX := Lib.hid hx
    have HP := Lib.hid hp'
    have hl := ht.len
    have hn1 : n = r.length + 1 := by rw [← hn]; rfl
    have HN := Lib.hid hn1
    obtain ⟨y, hy⟩ : ∃ y, y = putAt x t.ks[m0] r := ⟨_, rfl⟩
    have HY := Lib.hid hy
    rw [← hy] at P
    obtain ⟨ks', hks'⟩ : ∃ ks', ks' = t.ks.set m0 y := ⟨_, rfl⟩
    have KL := Lib.hid (show t.ks.length = ks'.length by rw [hks', List.length_set])
    have KS := Lib.hid hks'
    rw [← hks'] at P
    obtain ⟨i0, hi, hz0, hz1, hz2⟩ := info_parts infoE
    have HI := Lib.hid (And.intro hi (And.intro hz0 (And.intro hz1 hz2)))
    obtain ⟨e1, e2, e3, hb0⟩ := four_boxes w (.int .i64 t.k) (.int .i64 t.i) (.slice A t.ks.length c) (.int .i64 x.k) (.int .i64 x.i) (.slice Ax x.ks.length cx) (.int .i64 0) (.int .i64 0) (.slice none 0 0) (.int .i64 t.k) (.int .i64 t.i) (.slice none 0 0)
    have S0 := Lib.hid (And.intro e1 (And.intro e2 (And.intro e3 hb0)))
    have hnz : ((n : Int) == 0) = false := by rw [beq_eq_false_iff_ne]; omega
    have hn0 : (0 : Int) < (n : Int) := by omega
    clear ih ht hx hr hp hp' hn hy hks' e1 e2 e3 hb0 hn1 hi hz0 hz1 hz2
    by_cases hc1 : cap = 1
    · subst hc1
      obtain rfl : n = 1 := by have := HN.out; omega
      obtain rfl : r = [] := List.eq_nil_of_length_eq_zero (by have := HN.out; omega)
      go_enter Try.func37, Try.ntmps37
      go_wp2_with fail
      go_loopw [24] (fun i wr => ∃ (m : Nat) (Al : Option Addr) (cl : Nat) (cs : List (Option Addr × Nat)), m ≤ t.ks.length ∧ i = .int .i64 m ∧ Box3 wr (w.heap.size + 1) (.int .i64 x.k) (.int .i64 x.i) (.slice Ax x.ks.length cx) ∧ Box3 wr (w.heap.size + 2) (.int .i64 0) (.int .i64 0) (.slice none 0 0) ∧ Lay w wr w.heap.size (w.heap.size + 4) (w.heap.size + 3) (.int .i64 t.k) (.int .i64 t.i) (ks'.take m) Al cl cs) (fun i _ => t.ks.length - (intOf i).toNat)
      case atStart => exact ⟨0, none, 0, [], Nat.zero_le _, rfl, S0.out.1, S0.out.2.1, S0.out.2.2.2, rfl, by simpa using S0.out.2.2.1, by omega, by omega, by simpa [rowC] using World.ownsRow_nil _ _ _ _, by simp [OwnL]⟩
      case round =>
        obtain ⟨m, Al, cl, cs, hm', rfl, hb1, hb2, hL⟩ := hrel
        have HB1 := Lib.hid hb1
        have HB2 := Lib.hid hb2
        have HL := Lib.hid hL
        have hbr := hL.below
        have tl : (ks'.take m).length = m := by have := KL.out; simp; omega
        have TL := Lib.hid tl
        clear hb1 hb2 hL S0 tl
        by_cases hlt : m < t.ks.length
        · obtain ⟨b, o, A', c', rfl, hlt', p0, p1, p2, hk⟩ := HT.out.kid m hlt
          have STEP := Lib.hid (fun w1 wx w4 q => @Lay.stepG w wr w1 wx w4 _ _ _ _ _ _ q _ _ _ HL.out)
          have TK := Lib.hid (List.take_succ_eq_append_getElem (l := ks') (i := m) (by have := KL.out; omega))
          have d0 := (hbr.cell hlt').trans p0
          have d1 := (hbr.cell hlt').trans p1
          have d2 := (hbr.cell hlt').trans p2
          have hnn : (m : Int) < (t.ks.length : Int) := by omega
          have ha : ∀ o, Below wr.heap.size wr (wr.alloc o) := fun o => (Below.refl _ _).alloc (Nat.le_refl _) _
          have LB := Lib.hid HL.out.box.lt
          obtain ⟨q', hq'⟩ : ∃ q', q' = t.ks[m] := ⟨_, rfl⟩
          have HK := Lib.hid (fun o => (hk.keep hbr hbr.size).keep (ha o) (ha o).size)
          have HQ := Lib.hid hq'
          rw [← hq'] at d0 d1 d2 HK
          clear p0 p1 p2 hk hq'
          go_wp2_with fail
          refine (copy_any q'.sz q' A' c' _ (Nat.le_refl _) (by exact HK.out _)).mono ?_
          rintro e w1 ⟨A2, c2, rfl, ho, hb2⟩
          have HW1 := Lib.hid ((ha _).trans (hb2.mono (ha _).size))
          have hsz1 := hb2.size
          simp only [World.size_alloc] at hsz1 ho
          have HO := Lib.hid (ho.lower (lo' := wr.heap.size) (by omega))
          have hbig : w.heap.size + 3 < w1.heap.size := by have := LB.out; omega
          have hpc : ∀ o, (w1.alloc o).cell? ad = some (.int .i64 (m0 : Int)) := fun o => (((Below.refl w1.heap.size w1).alloc (Nat.le_refl _) o).cell (p := ad) (by have := hbr.size; omega)).trans ((HW1.out.cell (p := ad) (by have := hbr.size; omega)).trans ((hbr.cell hadl).trans hc0))
          have X1 := Lib.hid (HB1.out.keep HW1.out HB1.out.lt)
          have X2 := Lib.hid (HB2.out.keep HW1.out HB2.out.lt)
          have X3 := Lib.hid (HL.out.box.keep HW1.out HL.out.box.lt)
          have XO := Lib.hid (ownsRow_same (hi := wr.heap.size) HL.out.own (fun k k1 k2 => HW1.out.block k k2) (fun g e => (HL.out.own.lt g e).2))
          have OB := Lib.hid (fun g e => (HL.out.own.lt g e))
          rw [TL.out] at STEP X3 XO OB
          have K1 := Lib.hid (((Box3.new wr (.int .i64 q'.k) (.int .i64 q'.i) (.slice A' q'.ks.length c'))).keep hb2 (by simp))
          have K2 := Lib.hid ((HK.out _).keep hb2 hb2.size)
          clear ho hb2
          by_cases hmm : m = m0
          · subst hmm
            have IHY := Lib.hid (fun (A1 : Option Addr) (n cap : Nat) (w : World) (h1 : ([] : List Int).length = n) (h2 : n ≤ cap) (h3 : IsT w w.heap.size q' A' c') (h4 : IsT w w.heap.size x Ax cx) (h5 : Rd .i64 w w.heap.size A1 ([] : List Int)) => (by rw [HY.out, ← HQ.out]; exact IH.out q' q A' c' A1 n cap w h1 h2 (by rw [HQ.out]; exact HP.out) h3 h4 h5 : Calls Try.prog 37 #[.agg #[.int .i64 q'.k, .int .i64 q'.i, .slice A' q'.ks.length c'], .slice A1 n cap, .agg #[.int .i64 x.k, .int .i64 x.i, .slice Ax x.ks.length cx]] w (NewT w y)))
            have ek : ks'[m]'(by have := KL.out; omega) = y := set_get_same KS.out _
            have EK := Lib.hid ek
            clear ek
            have hby : Below w1.heap.size w1 (w1.alloc (.cells #[.int .i64 q'.k, .int .i64 q'.i, .slice A2 q'.ks.length c2] 24)) := (Below.refl _ _).alloc (Nat.le_refl _) _
            have T0 : Wk wr (w1.alloc (.cells #[.int .i64 q'.k, .int .i64 q'.i, .slice A2 q'.ks.length c2] 24)) w.heap.size w1.heap.size q' A2 c2 q' A' c' x Ax cx (some ad) [(m : Int)] :=
              ⟨K1.out.keep hby K1.out.lt, X1.out.keep hby X1.out.lt, Box3.new _ _ _ _, K2.out.keep hby hby.size, ((HX.out.keep hbr hbr.size).keep HW1.out HW1.out.size).keep hby hby.size, ((HR.out.upZ hbr).upZ HW1.out).upZ hby, HW1.out.trans (hby.mono (by omega))⟩
            have T' := T0.keep ((Below.refl _ _).drew)
            clear hby T0
            have RD0 := Lib.hid (show ∀ (W : World) (A : Option Addr), Rd .i64 W W.heap.size A [] from fun _ _ => Rd.nil _ _ _ _)
            go_wp2_with fail
            go_region_held3 (fun w' => (w'.cell? ⟨wr.heap.size, 0, none⟩ = some (.int .i64 q'.k) ∧ w'.cell? ⟨wr.heap.size, 1, none⟩ = some (.int .i64 q'.i) ∧ w'.cell? ⟨wr.heap.size, 2, none⟩ = some (.slice A' q'.ks.length c')) ∧ (w'.cell? ⟨w.heap.size + 1, 0, none⟩ = some (.int .i64 x.k) ∧ w'.cell? ⟨w.heap.size + 1, 1, none⟩ = some (.int .i64 x.i) ∧ w'.cell? ⟨w.heap.size + 1, 2, none⟩ = some (.slice Ax x.ks.length cx)))
              (first | exact ⟨T'.kid.cells, T'.xb.cells⟩ | exact ⟨(((T'.kid.set_other _ _ (by show wr.heap.size ≠ w1.heap.size; omega)).set_other _ _ (by show wr.heap.size ≠ w1.heap.size; omega)).set_other _ _ (by show wr.heap.size ≠ w1.heap.size; omega)).cells, (((T'.xb.set_other _ _ (by show w.heap.size + 1 ≠ w1.heap.size; omega)).set_other _ _ (by show w.heap.size + 1 ≠ w1.heap.size; omega)).set_other _ _ (by show w.heap.size + 1 ≠ w1.heap.size; omega)).cells⟩)
              (first
                | (go_at_call 37; refine (IHY.out _ _ _ _ (by first | rfl | simp) (by first | omega | simp) (by exact T'.isT) (by exact T'.isX) (by first | exact RD0.out _ _ | exact (T'.path.dropZ 1))).mono ?_; rintro e w2 ⟨A3, c3, rfl, ho3, hb3⟩; have HO3 := Lib.hid ho3; have HLO3 := Lib.hid (show w1.heap.size + 1 ≤ _ from T'.yb.lt); replace T' := T'.keep hb3; clear hb3 ho3; obtain ⟨r0, r1, r2⟩ := T'.yb.cells; have s0 := T'.yb.frozen 0; have s1 := T'.yb.frozen 1; have s2 := T'.yb.frozen 2))
            have hs2 : w1.heap.size < w2.heap.size := T'.yb.lt
            obtain ⟨V, hV⟩ : ∃ V, ((w2.setCell ⟨w1.heap.size, 0, none⟩ (.int .i64 y.k)).setCell ⟨w1.heap.size, 1, none⟩ (.int .i64 y.i)).setCell ⟨w1.heap.size, 2, none⟩ (.slice A3 y.ks.length c3) = V := ⟨_, rfl⟩
            have BV : Below wr.heap.size wr V := by rw [← hV]; exact below_set3 T'.below _ _ _ (by omega)
            have YV : Box3 V w1.heap.size (.int .i64 y.k) (.int .i64 y.i) (.slice A3 y.ks.length c3) := by rw [← hV]; exact T'.yb.set3 _ _ _
            have hVs : V.heap.size = w2.heap.size := by rw [← hV]; simp
            have HOV : OwnT V wr.heap.size V.heap.size y A3 c3 := by
              have hss : SameIn (w1.heap.size + 1) w2.heap.size w2 V := by rw [← hV]; exact same_set3 _ _ _ _ _ (by omega)
              have h5 := (HO3.out.lower (lo' := wr.heap.size) (by have := HLO3.out; omega))
              have h6 := OwnT.same _ (SameIn.mono hss HLO3.out (Nat.le_refl _)) HO3.out
              rw [hVs]
              exact h6.lower (by have := HLO3.out; omega)
            have Z1 := Lib.hid (HB1.out.keep BV HB1.out.lt)
            have Z2 := Lib.hid (HB2.out.keep BV HB2.out.lt)
            have z3 := HL.out.box.keep BV HL.out.box.lt
            rw [TL.out] at z3
            have Z3 := Lib.hid z3
            have ZO := Lib.hid (ownsRow_same (hi := wr.heap.size) HL.out.own (fun k k1 k2 => BV.block k k2) (fun g e => (HL.out.own.lt g e).2))
            rw [TL.out] at ZO
            have HBV := Lib.hid BV
            have HHOV := Lib.hid HOV
            rw [hV]
            clear hV BV HOV z3 T' r0 r1 r2 s0 s1 s2 HO3 X1 X2 X3 XO K1 K2 HO
            obtain ⟨yc0, yc1, yc2⟩ := YV.cells
            have bx2 : V.cell? ⟨w.heap.size + 1 + 1 + 1, 2, none⟩ = some (.slice Al m cl) := Z3.out.cells.2.2
            have hVb : w.heap.size + 3 < V.heap.size := by omega
            clear hVs hs2
            have OWN := Lib.hid (fun o => ZO.out.alloc o)
            have B2 := Lib.hid (fun o => (Below.refl V.heap.size V).alloc (Nat.le_refl _) o)
            have KEEP := Lib.hid (fun o w4 (hgrow : (V.alloc o).grownBy w4 (Value.slice Al m cl).ownBlock) (b : Nat) (u v s : Value) (hb : Box3 V b u v s) (hlb : b < w.heap.size + 4) => (hb.keep (B2.out o) hb.lt).grown hgrow (fun e => by have := OB.out _ e.symm; omega))
            have BX4 := Lib.hid (fun o w4 hgrow => KEEP.out o w4 hgrow (w.heap.size + 3) _ _ _ Z3.out (by omega))
            clear YV
            go_wp2_with (at_builtin; refine wpList_append_lies _ (by rfl) _ _ _ (by rfl) (w.heap.size + 4) 24 i0 _ 3 40 Try.underlying22 HI.out.1 HI.out.2.1 HI.out.2.2.1 HI.out.2.2.2 (by rfl) (by omega) (.slice Al m cl) m (rowC (ks'.take m) cs) (by rfl) (by exact OWN.out _) ⟨V.heap.size, 0, none⟩ 1 1 [.int .i64 y.k, .int .i64 y.i, .slice A3 y.ks.length c3] (by rfl) (by rfl) (by exact news1 _ _ _ _ _) (by simp [Value.oneCell']) (by omega) (by unfold maxLen; omega) (by omega) (by simp; omega) (V.heap.size + 1) (by simp) ?_; intro g cap4 w4 hown4 hgrow hat hlt4; have bx4 := BX4.out _ w4 hgrow; have c4 : w4.cell? ⟨w.heap.size + 1 + 1 + 1, 2, none⟩ = some (.slice Al m cl) := bx4.cells.2.2; have f4 : w4.frozen? ⟨w.heap.size + 1 + 1 + 1, 2, none⟩ = false := bx4.frozen 2; have HO4 := Lib.hid hown4; have HG4 := Lib.hid hgrow; have HAT := Lib.hid hat; clear hown4 hgrow hat bx4)
            have NL := Lib.hid (STEP.out V _ w4 y HBV.out HHOV.out (B2.out _) HO4.out HG4.out (HAT.out.imp id (fun e => by simpa using e)))
            have R1 := Lib.hid ((KEEP.out _ w4 HG4.out _ _ _ _ Z1.out (by omega)).set_other ⟨w.heap.size + 3, 2, none⟩ (.slice (some ⟨g, 0, none⟩) (m + 1) cap4) (by show w.heap.size + 1 ≠ w.heap.size + 3; omega))
            have R2 := Lib.hid ((KEEP.out _ w4 HG4.out _ _ _ _ Z2.out (by omega)).set_other ⟨w.heap.size + 3, 2, none⟩ (.slice (some ⟨g, 0, none⟩) (m + 1) cap4) (by show w.heap.size + 2 ≠ w.heap.size + 3; omega))
            go_roundw
            case rel => exact ⟨m + 1, _, _, _, by omega, by go_num, R1.out, R2.out, by rw [TK.out, EK.out]; exact NL.out⟩
            case measure => simp [intOf]; omega
          · have hmi : ((m : Int) == (m0 : Int)) = false := by rw [beq_eq_false_iff_ne]; omega
            have ek : ks'[m]'(by have := KL.out; omega) = q' := by rw [HQ.out]; exact set_get_other KS.out hmm _ hlt
            have EK := Lib.hid ek
            clear ek
            have yc := Box3.new w1 (.int .i64 q'.k) (.int .i64 q'.i) (.slice A2 q'.ks.length c2)
            obtain ⟨yc0, yc1, yc2⟩ := yc.cells
            have bx2 : ∀ o, (w1.alloc o).cell? ⟨w.heap.size + 1 + 1 + 1, 2, none⟩ = some (.slice Al m cl) := fun o => (((Below.refl w1.heap.size w1).alloc (Nat.le_refl _) o).cell (show w.heap.size + 3 < _ from hbig)).trans X3.out.cells.2.2
            have OWN := Lib.hid (fun o => (XO.out.alloc (.cells #[.int .i64 q'.k, .int .i64 q'.i, .slice A2 q'.ks.length c2] 24)).alloc o)
            have B2 := Lib.hid (fun o => ((Below.refl w1.heap.size w1).alloc (Nat.le_refl _) (.cells #[.int .i64 q'.k, .int .i64 q'.i, .slice A2 q'.ks.length c2] 24)).alloc (by simp) o)
            have KEEP := Lib.hid (fun o w4 (hgrow : ((w1.alloc (.cells #[.int .i64 q'.k, .int .i64 q'.i, .slice A2 q'.ks.length c2] 24)).alloc o).grownBy w4 (Value.slice Al m cl).ownBlock) (b : Nat) (u v s : Value) (hb : Box3 w1 b u v s) (hlb : b < w.heap.size + 4) => (hb.keep (B2.out o) hb.lt).grown hgrow (fun e => by have := OB.out _ e.symm; omega))
            have BX4 := Lib.hid (fun o w4 hgrow => KEEP.out o w4 hgrow (w.heap.size + 3) _ _ _ X3.out (by omega))
            clear yc
            go_wp2_with (at_builtin; refine wpList_append_lies _ (by rfl) _ _ _ (by rfl) (w.heap.size + 4) 24 i0 _ 3 40 Try.underlying22 HI.out.1 HI.out.2.1 HI.out.2.2.1 HI.out.2.2.2 (by rfl) (by omega) (.slice Al m cl) m (rowC (ks'.take m) cs) (by rfl) (by exact OWN.out _) ⟨w1.heap.size + 1, 0, none⟩ 1 1 [.int .i64 q'.k, .int .i64 q'.i, .slice A2 q'.ks.length c2] (by rfl) (by rfl) (by exact news3 _ _ _ _ _ _) (by simp [Value.oneCell']) (by omega) (by unfold maxLen; omega) (by omega) (by simp; omega) (w1.heap.size + 2) (by simp) ?_; intro g cap4 w4 hown4 hgrow hat hlt4; have bx4 := BX4.out _ w4 hgrow; have c4 : w4.cell? ⟨w.heap.size + 1 + 1 + 1, 2, none⟩ = some (.slice Al m cl) := bx4.cells.2.2; have f4 : w4.frozen? ⟨w.heap.size + 1 + 1 + 1, 2, none⟩ = false := bx4.frozen 2; have HO4 := Lib.hid hown4; have HG4 := Lib.hid hgrow; have HAT := Lib.hid hat; clear hown4 hgrow hat bx4)
            have NL := Lib.hid (STEP.out w1 _ w4 q' HW1.out HO.out (B2.out _) HO4.out HG4.out (HAT.out.imp id (fun e => by simpa using e)))
            have R1 := Lib.hid ((KEEP.out _ w4 HG4.out _ _ _ _ X1.out (by omega)).set_other ⟨w.heap.size + 3, 2, none⟩ (.slice (some ⟨g, 0, none⟩) (m + 1) cap4) (by show w.heap.size + 1 ≠ w.heap.size + 3; omega))
            have R2 := Lib.hid ((KEEP.out _ w4 HG4.out _ _ _ _ X2.out (by omega)).set_other ⟨w.heap.size + 3, 2, none⟩ (.slice (some ⟨g, 0, none⟩) (m + 1) cap4) (by show w.heap.size + 2 ≠ w.heap.size + 3; omega))
            go_roundw
            case rel => exact ⟨m + 1, _, _, _, by omega, by go_num, R1.out, R2.out, by rw [TK.out, EK.out]; exact NL.out⟩
            case measure => simp [intOf]; omega
        · obtain rfl : m = t.ks.length := by omega
          have DONE := Lib.hid (show OwnT wr (w.heap.size + 4) wr.heap.size (.node t.k t.i ks') Al cl from Lay.done (t := .node t.k t.i ks') (by have := HL.out; rwa [show ks'.take t.ks.length = ks' from by rw [KL.out]; exact List.take_length] at this))
          have x0 : wr.cell? ⟨w.heap.size + 1 + 1 + 1, 0, none⟩ = some (.int .i64 t.k) := HL.out.box.cells.1
          have x1 : wr.cell? ⟨w.heap.size + 1 + 1 + 1, 1, none⟩ = some (.int .i64 t.i) := HL.out.box.cells.2.1
          have x2 : wr.cell? ⟨w.heap.size + 1 + 1 + 1, 2, none⟩ = some (.slice Al t.ks.length cl) := by have := HL.out.box.cells.2.2; rwa [TL.out] at this
          obtain ⟨y0, y1, y2⟩ := HB2.out.cells
          have f0 := HB2.out.frozen 0
          have f1 := HB2.out.frozen 1
          have f2 := HB2.out.frozen 2
          go_wp2_with fail
          refine bodyPost_ret (v := .agg #[.int .i64 t.k, .int .i64 t.i, .slice Al t.ks.length cl]) (by simp [results, Try.results37, go_sem, y0, y1, y2]) rfl ?_
          rw [P.out]
          refine ⟨Al, cl, by rw [KL.out]; rfl, ?_, below_set3 hbr _ _ _ (by omega)⟩
          have hs : SameIn (w.heap.size + 4) wr.heap.size wr (((wr.setCell ⟨w.heap.size + 2, 0, none⟩ (.int .i64 t.k)).setCell ⟨w.heap.size + 2, 1, none⟩ (.int .i64 t.i)).setCell ⟨w.heap.size + 2, 2, none⟩ (.slice Al t.ks.length cl)) := same_set3 _ _ _ _ _ (by omega)
          have := (OwnT.same _ hs DONE.out).lower (lo' := w.heap.size) (by omega)
          simpa using this
    · have h1a : ¬ (cap : Int) = 1 := by omega
      have h1b : ¬ cap - 1 = 0 := by omega
      go_enter Try.func37, Try.ntmps37
      go_wp2_with fail
      go_loopw [24] (fun i wr => ∃ (m : Nat) (Al : Option Addr) (cl : Nat) (cs : List (Option Addr × Nat)), m ≤ t.ks.length ∧ i = .int .i64 m ∧ Box3 wr (w.heap.size + 1) (.int .i64 x.k) (.int .i64 x.i) (.slice Ax x.ks.length cx) ∧ Box3 wr (w.heap.size + 2) (.int .i64 0) (.int .i64 0) (.slice none 0 0) ∧ Lay w wr w.heap.size (w.heap.size + 4) (w.heap.size + 3) (.int .i64 t.k) (.int .i64 t.i) (ks'.take m) Al cl cs) (fun i _ => t.ks.length - (intOf i).toNat)
      case atStart => exact ⟨0, none, 0, [], Nat.zero_le _, rfl, S0.out.1, S0.out.2.1, S0.out.2.2.2, rfl, by simpa using S0.out.2.2.1, by omega, by omega, by simpa [rowC] using World.ownsRow_nil _ _ _ _, by simp [OwnL]⟩
      case round =>
        obtain ⟨m, Al, cl, cs, hm', rfl, hb1, hb2, hL⟩ := hrel
        have HB1 := Lib.hid hb1
        have HB2 := Lib.hid hb2
        have HL := Lib.hid hL
        have hbr := hL.below
        have tl : (ks'.take m).length = m := by have := KL.out; simp; omega
        have TL := Lib.hid tl
        clear hb1 hb2 hL S0 tl
        by_cases hlt : m < t.ks.length
        · obtain ⟨b, o, A', c', rfl, hlt', p0, p1, p2, hk⟩ := HT.out.kid m hlt
          have STEP := Lib.hid (fun w1 wx w4 q => @Lay.stepG w wr w1 wx w4 _ _ _ _ _ _ q _ _ _ HL.out)
          have TK := Lib.hid (List.take_succ_eq_append_getElem (l := ks') (i := m) (by have := KL.out; omega))
          have d0 := (hbr.cell hlt').trans p0
          have d1 := (hbr.cell hlt').trans p1
          have d2 := (hbr.cell hlt').trans p2
          have hnn : (m : Int) < (t.ks.length : Int) := by omega
          have ha : ∀ o, Below wr.heap.size wr (wr.alloc o) := fun o => (Below.refl _ _).alloc (Nat.le_refl _) _
          have LB := Lib.hid HL.out.box.lt
          obtain ⟨q', hq'⟩ : ∃ q', q' = t.ks[m] := ⟨_, rfl⟩
          have HK := Lib.hid (fun o => (hk.keep hbr hbr.size).keep (ha o) (ha o).size)
          have HQ := Lib.hid hq'
          rw [← hq'] at d0 d1 d2 HK
          clear p0 p1 p2 hk hq'
          go_wp2_with fail
          refine (copy_any q'.sz q' A' c' _ (Nat.le_refl _) (by exact HK.out _)).mono ?_
          rintro e w1 ⟨A2, c2, rfl, ho, hb2⟩
          have HW1 := Lib.hid ((ha _).trans (hb2.mono (ha _).size))
          have hsz1 := hb2.size
          simp only [World.size_alloc] at hsz1 ho
          have HO := Lib.hid (ho.lower (lo' := wr.heap.size) (by omega))
          have hbig : w.heap.size + 3 < w1.heap.size := by have := LB.out; omega
          have hpc : ∀ o, (w1.alloc o).cell? ad = some (.int .i64 (m0 : Int)) := fun o => (((Below.refl w1.heap.size w1).alloc (Nat.le_refl _) o).cell (p := ad) (by have := hbr.size; omega)).trans ((HW1.out.cell (p := ad) (by have := hbr.size; omega)).trans ((hbr.cell hadl).trans hc0))
          have X1 := Lib.hid (HB1.out.keep HW1.out HB1.out.lt)
          have X2 := Lib.hid (HB2.out.keep HW1.out HB2.out.lt)
          have X3 := Lib.hid (HL.out.box.keep HW1.out HL.out.box.lt)
          have XO := Lib.hid (ownsRow_same (hi := wr.heap.size) HL.out.own (fun k k1 k2 => HW1.out.block k k2) (fun g e => (HL.out.own.lt g e).2))
          have OB := Lib.hid (fun g e => (HL.out.own.lt g e))
          rw [TL.out] at STEP X3 XO OB
          have K1 := Lib.hid (((Box3.new wr (.int .i64 q'.k) (.int .i64 q'.i) (.slice A' q'.ks.length c'))).keep hb2 (by simp))
          have K2 := Lib.hid ((HK.out _).keep hb2 hb2.size)
          clear ho hb2
          by_cases hmm : m = m0
          · subst hmm
            have IHY := Lib.hid (fun (A1 : Option Addr) (n cap : Nat) (w : World) (h1 : r.length = n) (h2 : n ≤ cap) (h3 : IsT w w.heap.size q' A' c') (h4 : IsT w w.heap.size x Ax cx) (h5 : Rd .i64 w w.heap.size A1 r) => (by rw [HY.out, ← HQ.out]; exact IH.out q' q A' c' A1 n cap w h1 h2 (by rw [HQ.out]; exact HP.out) h3 h4 h5 : Calls Try.prog 37 #[.agg #[.int .i64 q'.k, .int .i64 q'.i, .slice A' q'.ks.length c'], .slice A1 n cap, .agg #[.int .i64 x.k, .int .i64 x.i, .slice Ax x.ks.length cx]] w (NewT w y)))
            have ek : ks'[m]'(by have := KL.out; omega) = y := set_get_same KS.out _
            have EK := Lib.hid ek
            clear ek
            have hby : Below w1.heap.size w1 (w1.alloc (.cells #[.int .i64 q'.k, .int .i64 q'.i, .slice A2 q'.ks.length c2] 24)) := (Below.refl _ _).alloc (Nat.le_refl _) _
            have T0 : Wk wr (w1.alloc (.cells #[.int .i64 q'.k, .int .i64 q'.i, .slice A2 q'.ks.length c2] 24)) w.heap.size w1.heap.size q' A2 c2 q' A' c' x Ax cx (some ad) ((m : Int) :: r) :=
              ⟨K1.out.keep hby K1.out.lt, X1.out.keep hby X1.out.lt, Box3.new _ _ _ _, K2.out.keep hby hby.size, ((HX.out.keep hbr hbr.size).keep HW1.out HW1.out.size).keep hby hby.size, ((HR.out.upZ hbr).upZ HW1.out).upZ hby, HW1.out.trans (hby.mono (by omega))⟩
            have T' := T0.keep ((Below.refl _ _).drew)
            clear hby T0
            have hcc : (1 : Int) ≤ (cap : Int) := by omega
            have hcn : (1 : Int) ≤ (n : Int) := by omega
            have hcq : (n : Int) ≤ (cap : Int) := by omega
            go_wp2_with fail
            go_region_held3 (fun w' => (w'.cell? ⟨wr.heap.size, 0, none⟩ = some (.int .i64 q'.k) ∧ w'.cell? ⟨wr.heap.size, 1, none⟩ = some (.int .i64 q'.i) ∧ w'.cell? ⟨wr.heap.size, 2, none⟩ = some (.slice A' q'.ks.length c')) ∧ (w'.cell? ⟨w.heap.size + 1, 0, none⟩ = some (.int .i64 x.k) ∧ w'.cell? ⟨w.heap.size + 1, 1, none⟩ = some (.int .i64 x.i) ∧ w'.cell? ⟨w.heap.size + 1, 2, none⟩ = some (.slice Ax x.ks.length cx)))
              (first | exact ⟨T'.kid.cells, T'.xb.cells⟩ | exact ⟨(((T'.kid.set_other _ _ (by show wr.heap.size ≠ w1.heap.size; omega)).set_other _ _ (by show wr.heap.size ≠ w1.heap.size; omega)).set_other _ _ (by show wr.heap.size ≠ w1.heap.size; omega)).cells, (((T'.xb.set_other _ _ (by show w.heap.size + 1 ≠ w1.heap.size; omega)).set_other _ _ (by show w.heap.size + 1 ≠ w1.heap.size; omega)).set_other _ _ (by show w.heap.size + 1 ≠ w1.heap.size; omega)).cells⟩)
              (first
                | (go_at_call 37; refine (IHY.out _ _ _ _ (by have := HN.out; first | omega | simp) (by omega) (by exact T'.isT) (by exact T'.isX) (by exact (T'.path.dropZ 1))).mono ?_; rintro e w2 ⟨A3, c3, rfl, ho3, hb3⟩; have HO3 := Lib.hid ho3; have HLO3 := Lib.hid (show w1.heap.size + 1 ≤ _ from T'.yb.lt); replace T' := T'.keep hb3; clear hb3 ho3; obtain ⟨r0, r1, r2⟩ := T'.yb.cells; have s0 := T'.yb.frozen 0; have s1 := T'.yb.frozen 1; have s2 := T'.yb.frozen 2))
            have hs2 : w1.heap.size < w2.heap.size := T'.yb.lt
            obtain ⟨V, hV⟩ : ∃ V, ((w2.setCell ⟨w1.heap.size, 0, none⟩ (.int .i64 y.k)).setCell ⟨w1.heap.size, 1, none⟩ (.int .i64 y.i)).setCell ⟨w1.heap.size, 2, none⟩ (.slice A3 y.ks.length c3) = V := ⟨_, rfl⟩
            have BV : Below wr.heap.size wr V := by rw [← hV]; exact below_set3 T'.below _ _ _ (by omega)
            have YV : Box3 V w1.heap.size (.int .i64 y.k) (.int .i64 y.i) (.slice A3 y.ks.length c3) := by rw [← hV]; exact T'.yb.set3 _ _ _
            have hVs : V.heap.size = w2.heap.size := by rw [← hV]; simp
            have HOV : OwnT V wr.heap.size V.heap.size y A3 c3 := by
              have hss : SameIn (w1.heap.size + 1) w2.heap.size w2 V := by rw [← hV]; exact same_set3 _ _ _ _ _ (by omega)
              have h5 := (HO3.out.lower (lo' := wr.heap.size) (by have := HLO3.out; omega))
              have h6 := OwnT.same _ (SameIn.mono hss HLO3.out (Nat.le_refl _)) HO3.out
              rw [hVs]
              exact h6.lower (by have := HLO3.out; omega)
            have Z1 := Lib.hid (HB1.out.keep BV HB1.out.lt)
            have Z2 := Lib.hid (HB2.out.keep BV HB2.out.lt)
            have z3 := HL.out.box.keep BV HL.out.box.lt
            rw [TL.out] at z3
            have Z3 := Lib.hid z3
            have ZO := Lib.hid (ownsRow_same (hi := wr.heap.size) HL.out.own (fun k k1 k2 => BV.block k k2) (fun g e => (HL.out.own.lt g e).2))
            rw [TL.out] at ZO
            have HBV := Lib.hid BV
            have HHOV := Lib.hid HOV
            rw [hV]
            clear hV BV HOV z3 T' r0 r1 r2 s0 s1 s2 HO3 X1 X2 X3 XO K1 K2 HO
            obtain ⟨yc0, yc1, yc2⟩ := YV.cells
            have bx2 : V.cell? ⟨w.heap.size + 1 + 1 + 1, 2, none⟩ = some (.slice Al m cl) := Z3.out.cells.2.2
            have hVb : w.heap.size + 3 < V.heap.size := by omega
            clear hVs hs2
            have OWN := Lib.hid (fun o => ZO.out.alloc o)
            have B2 := Lib.hid (fun o => (Below.refl V.heap.size V).alloc (Nat.le_refl _) o)
            have KEEP := Lib.hid (fun o w4 (hgrow : (V.alloc o).grownBy w4 (Value.slice Al m cl).ownBlock) (b : Nat) (u v s : Value) (hb : Box3 V b u v s) (hlb : b < w.heap.size + 4) => (hb.keep (B2.out o) hb.lt).grown hgrow (fun e => by have := OB.out _ e.symm; omega))
            have BX4 := Lib.hid (fun o w4 hgrow => KEEP.out o w4 hgrow (w.heap.size + 3) _ _ _ Z3.out (by omega))
            clear YV
            go_wp2_with (at_builtin; refine wpList_append_lies _ (by rfl) _ _ _ (by rfl) (w.heap.size + 4) 24 i0 _ 3 40 Try.underlying22 HI.out.1 HI.out.2.1 HI.out.2.2.1 HI.out.2.2.2 (by rfl) (by omega) (.slice Al m cl) m (rowC (ks'.take m) cs) (by rfl) (by exact OWN.out _) ⟨V.heap.size, 0, none⟩ 1 1 [.int .i64 y.k, .int .i64 y.i, .slice A3 y.ks.length c3] (by rfl) (by rfl) (by exact news1 _ _ _ _ _) (by simp [Value.oneCell']) (by omega) (by unfold maxLen; omega) (by omega) (by simp; omega) (V.heap.size + 1) (by simp) ?_; intro g cap4 w4 hown4 hgrow hat hlt4; have bx4 := BX4.out _ w4 hgrow; have c4 : w4.cell? ⟨w.heap.size + 1 + 1 + 1, 2, none⟩ = some (.slice Al m cl) := bx4.cells.2.2; have f4 : w4.frozen? ⟨w.heap.size + 1 + 1 + 1, 2, none⟩ = false := bx4.frozen 2; have HO4 := Lib.hid hown4; have HG4 := Lib.hid hgrow; have HAT := Lib.hid hat; clear hown4 hgrow hat bx4)
            have NL := Lib.hid (STEP.out V _ w4 y HBV.out HHOV.out (B2.out _) HO4.out HG4.out (HAT.out.imp id (fun e => by simpa using e)))
            have R1 := Lib.hid ((KEEP.out _ w4 HG4.out _ _ _ _ Z1.out (by omega)).set_other ⟨w.heap.size + 3, 2, none⟩ (.slice (some ⟨g, 0, none⟩) (m + 1) cap4) (by show w.heap.size + 1 ≠ w.heap.size + 3; omega))
            have R2 := Lib.hid ((KEEP.out _ w4 HG4.out _ _ _ _ Z2.out (by omega)).set_other ⟨w.heap.size + 3, 2, none⟩ (.slice (some ⟨g, 0, none⟩) (m + 1) cap4) (by show w.heap.size + 2 ≠ w.heap.size + 3; omega))
            go_roundw
            case rel => exact ⟨m + 1, _, _, _, by omega, by go_num, R1.out, R2.out, by rw [TK.out, EK.out]; exact NL.out⟩
            case measure => simp [intOf]; omega
          · have hmi : ((m : Int) == (m0 : Int)) = false := by rw [beq_eq_false_iff_ne]; omega
            have ek : ks'[m]'(by have := KL.out; omega) = q' := by rw [HQ.out]; exact set_get_other KS.out hmm _ hlt
            have EK := Lib.hid ek
            clear ek
            have yc := Box3.new w1 (.int .i64 q'.k) (.int .i64 q'.i) (.slice A2 q'.ks.length c2)
            obtain ⟨yc0, yc1, yc2⟩ := yc.cells
            have bx2 : ∀ o, (w1.alloc o).cell? ⟨w.heap.size + 1 + 1 + 1, 2, none⟩ = some (.slice Al m cl) := fun o => (((Below.refl w1.heap.size w1).alloc (Nat.le_refl _) o).cell (show w.heap.size + 3 < _ from hbig)).trans X3.out.cells.2.2
            have OWN := Lib.hid (fun o => (XO.out.alloc (.cells #[.int .i64 q'.k, .int .i64 q'.i, .slice A2 q'.ks.length c2] 24)).alloc o)
            have B2 := Lib.hid (fun o => ((Below.refl w1.heap.size w1).alloc (Nat.le_refl _) (.cells #[.int .i64 q'.k, .int .i64 q'.i, .slice A2 q'.ks.length c2] 24)).alloc (by simp) o)
            have KEEP := Lib.hid (fun o w4 (hgrow : ((w1.alloc (.cells #[.int .i64 q'.k, .int .i64 q'.i, .slice A2 q'.ks.length c2] 24)).alloc o).grownBy w4 (Value.slice Al m cl).ownBlock) (b : Nat) (u v s : Value) (hb : Box3 w1 b u v s) (hlb : b < w.heap.size + 4) => (hb.keep (B2.out o) hb.lt).grown hgrow (fun e => by have := OB.out _ e.symm; omega))
            have BX4 := Lib.hid (fun o w4 hgrow => KEEP.out o w4 hgrow (w.heap.size + 3) _ _ _ X3.out (by omega))
            clear yc
            go_wp2_with (at_builtin; refine wpList_append_lies _ (by rfl) _ _ _ (by rfl) (w.heap.size + 4) 24 i0 _ 3 40 Try.underlying22 HI.out.1 HI.out.2.1 HI.out.2.2.1 HI.out.2.2.2 (by rfl) (by omega) (.slice Al m cl) m (rowC (ks'.take m) cs) (by rfl) (by exact OWN.out _) ⟨w1.heap.size + 1, 0, none⟩ 1 1 [.int .i64 q'.k, .int .i64 q'.i, .slice A2 q'.ks.length c2] (by rfl) (by rfl) (by exact news3 _ _ _ _ _ _) (by simp [Value.oneCell']) (by omega) (by unfold maxLen; omega) (by omega) (by simp; omega) (w1.heap.size + 2) (by simp) ?_; intro g cap4 w4 hown4 hgrow hat hlt4; have bx4 := BX4.out _ w4 hgrow; have c4 : w4.cell? ⟨w.heap.size + 1 + 1 + 1, 2, none⟩ = some (.slice Al m cl) := bx4.cells.2.2; have f4 : w4.frozen? ⟨w.heap.size + 1 + 1 + 1, 2, none⟩ = false := bx4.frozen 2; have HO4 := Lib.hid hown4; have HG4 := Lib.hid hgrow; have HAT := Lib.hid hat; clear hown4 hgrow hat bx4)
            have NL := Lib.hid (STEP.out w1 _ w4 q' HW1.out HO.out (B2.out _) HO4.out HG4.out (HAT.out.imp id (fun e => by simpa using e)))
            have R1 := Lib.hid ((KEEP.out _ w4 HG4.out _ _ _ _ X1.out (by omega)).set_other ⟨w.heap.size + 3, 2, none⟩ (.slice (some ⟨g, 0, none⟩) (m + 1) cap4) (by show w.heap.size + 1 ≠ w.heap.size + 3; omega))
            have R2 := Lib.hid ((KEEP.out _ w4 HG4.out _ _ _ _ X2.out (by omega)).set_other ⟨w.heap.size + 3, 2, none⟩ (.slice (some ⟨g, 0, none⟩) (m + 1) cap4) (by show w.heap.size + 2 ≠ w.heap.size + 3; omega))
            go_roundw
            case rel => exact ⟨m + 1, _, _, _, by omega, by go_num, R1.out, R2.out, by rw [TK.out, EK.out]; exact NL.out⟩
            case measure => simp [intOf]; omega
        · obtain rfl : m = t.ks.length := by omega
          have DONE := Lib.hid (show OwnT wr (w.heap.size + 4) wr.heap.size (.node t.k t.i ks') Al cl from Lay.done (t := .node t.k t.i ks') (by have := HL.out; rwa [show ks'.take t.ks.length = ks' from by rw [KL.out]; exact List.take_length] at this))
          have x0 : wr.cell? ⟨w.heap.size + 1 + 1 + 1, 0, none⟩ = some (.int .i64 t.k) := HL.out.box.cells.1
          have x1 : wr.cell? ⟨w.heap.size + 1 + 1 + 1, 1, none⟩ = some (.int .i64 t.i) := HL.out.box.cells.2.1
          have x2 : wr.cell? ⟨w.heap.size + 1 + 1 + 1, 2, none⟩ = some (.slice Al t.ks.length cl) := by have := HL.out.box.cells.2.2; rwa [TL.out] at this
          obtain ⟨y0, y1, y2⟩ := HB2.out.cells
          have f0 := HB2.out.frozen 0
          have f1 := HB2.out.frozen 1
          have f2 := HB2.out.frozen 2
          go_wp2_with fail
          refine bodyPost_ret (v := .agg #[.int .i64 t.k, .int .i64 t.i, .slice Al t.ks.length cl]) (by simp [results, Try.results37, go_sem, y0, y1, y2]) rfl ?_
          rw [P.out]
          refine ⟨Al, cl, by rw [KL.out]; rfl, ?_, below_set3 hbr _ _ _ (by omega)⟩
          have hs : SameIn (w.heap.size + 4) wr.heap.size wr (((wr.setCell ⟨w.heap.size + 2, 0, none⟩ (.int .i64 t.k)).setCell ⟨w.heap.size + 2, 1, none⟩ (.int .i64 t.i)).setCell ⟨w.heap.size + 2, 2, none⟩ (.slice Al t.ks.length cl)) := same_set3 _ _ _ _ _ (by omega)
          have := (OwnT.same _ hs DONE.out).lower (lo' := w.heap.size) (by omega)
          simpa using this
end Go.Proofs.Ytdobpdedphkglaa
