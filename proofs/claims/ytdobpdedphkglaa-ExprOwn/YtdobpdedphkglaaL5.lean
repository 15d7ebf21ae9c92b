/- The laws ExprParts, ExprPuts, walked. -/
import Derived.Test.YtdobpdedphkglaaE31
import Derived.Test.YtdobpdedphkglaaL1
namespace Go.Proofs.Ytdobpdedphkglaa
open Go.RowKit Go.Sort
/-- two trees that came in, boxed, and a path -/
structure Qk (w W : World) (t : Tr) (A : Option Addr) (c : Nat) (x : Tr) (Ax : Option Addr) (cx : Nat) (A1 : Option Addr) (zs : List Int) : Prop where
  tb : Box3 W w.heap.size (.int .i64 t.k) (.int .i64 t.i) (.slice A t.ks.length c)
  xb : Box3 W (w.heap.size + 1) (.int .i64 x.k) (.int .i64 x.i) (.slice Ax x.ks.length cx)
  isT : IsT W W.heap.size t A c
  isX : IsT W W.heap.size x Ax cx
  path : Rd .i64 W W.heap.size A1 zs
  below : Below w.heap.size w W
theorem Qk.keep {w W W' : World} {t : Tr} {A : Option Addr} {c : Nat} {x : Tr} {Ax : Option Addr} {cx : Nat} {A1 : Option Addr} {zs : List Int} (h : Qk w W t A c x Ax cx A1 zs) (hb : Below W.heap.size W W') : Qk w W' t A c x Ax cx A1 zs :=
  ⟨h.tb.keep hb h.tb.lt, h.xb.keep hb h.xb.lt, h.isT.keep hb hb.size, h.isX.keep hb hb.size, h.path.upZ hb, h.below.trans (hb.mono h.below.size)⟩
theorem Qk.start {w : World} {t : Tr} {A : Option Addr} {c : Nat} {x : Tr} {Ax : Option Addr} {cx : Nat} {A1 : Option Addr} {zs : List Int} (ht : IsT w w.heap.size t A c) (hx : IsT w w.heap.size x Ax cx) (hr : Rd .i64 w w.heap.size A1 zs) :
    Qk w ((w.alloc (.cells #[.int .i64 t.k, .int .i64 t.i, .slice A t.ks.length c] 24)).alloc (.cells #[.int .i64 x.k, .int .i64 x.i, .slice Ax x.ks.length cx] 24)) t A c x Ax cx A1 zs := by
  obtain ⟨e0, e1, hb0⟩ := two_boxes0 w (.int .i64 t.k) (.int .i64 t.i) (.slice A t.ks.length c) (.int .i64 x.k) (.int .i64 x.i) (.slice Ax x.ks.length cx)
  exact ⟨e0, e1, ht.keep hb0 hb0.size, hx.keep hb0 hb0.size, hr.upZ hb0, hb0⟩
/-- an answer, boxed -/
structure AnB (W : World) (b : Nat) (p : Tr) (A : Option Addr) (c : Nat) : Prop where
  box : Box3 W b (.int .i64 p.k) (.int .i64 p.i) (.slice A p.ks.length c)
  is : IsT W W.heap.size p A c
theorem AnB.keep {W W' : World} {b : Nat} {p : Tr} {A : Option Addr} {c : Nat} (h : AnB W b p A c) (hb : Below W.heap.size W W') : AnB W' b p A c := ⟨h.box.keep hb h.box.lt, h.is.keep hb hb.size⟩
theorem AnB.new {W : World} {lo : Nat} {p : Tr} {A : Option Addr} {c : Nat} (h : OwnT W lo W.heap.size p A c) (hf : p.fit) : AnB (W.alloc (.cells #[.int .i64 p.k, .int .i64 p.i, .slice A p.ks.length c] 24)) W.heap.size p A c :=
  ⟨Box3.new _ _ _ _, h.is hf ((Below.refl _ _).alloc (Nat.le_refl _) _) (Nat.le_refl _)⟩
theorem alloc_below (W : World) (o : Obj) : Below W.heap.size W (W.alloc o) := (Below.refl _ _).alloc (Nat.le_refl _) _
theorem zeroT_fit : zeroT.fit := (fit_eq _).2 ⟨by simp [zeroT, Tr.ks, Cap], fun q hq => by simp [zeroT, Tr.ks] at hq⟩
theorem partAt_fit : ∀ (zs : List Int) (t q : Tr), partAt t zs = some q → t.fit → q.fit := by
  intro zs
  induction zs with
  | nil => intro t q h; rw [partAt_nil] at h; cases h; exact id
  | cons i r ih =>
    intro t q h hf
    obtain ⟨m, rfl, hm, hp⟩ := partAt_some h
    exact ih _ _ hp (((fit_eq t).1 hf).2 _ (List.getElem_mem hm))
theorem atN_fit {t : Tr} {zs : List Int} (h : t.fit) : (atN t zs).1.fit := by
  unfold atN
  split
  · cases e : partAt t zs with
    | none => exact zeroT_fit
    | some q => exact partAt_fit zs t q e h
  · exact zeroT_fit
theorem putR_fit {t x : Tr} {zs : List Int} (h : t.fit) (hx : x.fit) : (putR t x zs).1.fit := by
  unfold putR
  split
  · exact zeroT_fit
  · split
    · exact zeroT_fit
    · cases e : partAt t zs with
      | none => exact zeroT_fit
      | some q =>
        simp only []
        split
        · exact zeroT_fit
        · split
          · exact zeroT_fit
          · exact putAt_fit x hx zs t q e h
set_option maxRecDepth 100000 in
set_option maxHeartbeats 4000000 in
theorem parts_any (t x : Tr) (A Ax : Option Addr) (c cx : Nat) (A1 : Option Addr) (n cap : Nat) (zs : List Int) (w : World) (ht : IsT w w.heap.size t A c) (hx : IsT w w.heap.size x Ax cx) (hz : zs.length = n) (hn : n ≤ maxLen) (hnc : n ≤ cap) (hr : Rd .i64 w w.heap.size A1 zs) :
    Calls Try.prog 3 #[.agg #[.int .i64 t.k, .int .i64 t.i, .slice A t.ks.length c], .agg #[.int .i64 x.k, .int .i64 x.i, .slice Ax x.ks.length cx], .slice A1 n cap] w fun e w' => e = .returned (.bool true) ∧ Below w.heap.size w w' := by
  have K0 := Lib.hid (Qk.start ht hx hr)
  have FP := Lib.hid (atN_fit (zs := zs) (ht.fit t))
  have FY := Lib.hid (putR_fit (zs := zs) (ht.fit t) (hx.fit x))
  clear ht hx hr
  go_enter Try.func3, Try.ntmps3
  go_wp2_with fail
  refine (at_any t A c A1 n cap zs _ (by exact K0.out.isT) hz hn (by exact K0.out.path)).mono ?_
  rintro e w1 ⟨hb1, A2, c2, ho, rfl⟩
  obtain ⟨pa, hpa⟩ : ∃ pa, pa = atN t zs := ⟨_, rfl⟩
  have HPA := Lib.hid hpa
  rw [← hpa] at ho FP ⊢
  obtain ⟨p, f⟩ := pa
  simp only at ho FP ⊢
  have K1 := Lib.hid (fun o => (K0.out.keep hb1).keep (alloc_below w1 o))
  have BA := Lib.hid (AnB.new ho FP.out)
  have t0 := fun o => (K1.out o).tb.cells.1
  have t1 := fun o => (K1.out o).tb.cells.2.1
  have t2 := fun o => (K1.out o).tb.cells.2.2
  clear hb1 ho hpa K0
  go_wp2_with fail
  refine (rat_any t A c A1 n cap zs _ (by exact (K1.out _).isT) hz hn (by exact (K1.out _).path)).mono ?_
  rintro e w2 ⟨hb1, A3, c3, ho, rfl⟩
  rw [← HPA.out] at ho ⊢
  simp only at ho ⊢
  have K2 := Lib.hid (fun o => ((K1.out _).keep hb1).keep (alloc_below w2 o))
  have BA2 := Lib.hid (fun o => (BA.out.keep hb1).keep (alloc_below w2 o))
  have BB := Lib.hid (AnB.new ho FP.out)
  clear t0 t1 t2
  have t0 := fun o => (K2.out o).tb.cells.1
  have t1 := fun o => (K2.out o).tb.cells.2.1
  have t2 := fun o => (K2.out o).tb.cells.2.2
  have x0 := fun o => (K2.out o).xb.cells.1
  have x1 := fun o => (K2.out o).xb.cells.2.1
  have x2 := fun o => (K2.out o).xb.cells.2.2
  clear hb1 ho K1 BA
  go_wp2_with fail
  refine (put_tree t A c x Ax cx A1 n cap zs _ (by exact (K2.out _).isT) (by exact (K2.out _).isX) hz hn hnc (by exact (K2.out _).path)).mono ?_
  rintro e w3 ⟨hb1, A4, c4, ho, rfl⟩
  obtain ⟨py, hpy⟩ : ∃ py, py = putR t x zs := ⟨_, rfl⟩
  have HPY := Lib.hid hpy
  rw [← hpy] at ho FY ⊢
  obtain ⟨y, g⟩ := py
  simp only at ho FY ⊢
  have K3 := Lib.hid (fun o => ((K2.out _).keep hb1).keep (alloc_below w3 o))
  have BA3 := Lib.hid (fun o => ((BA2.out _).keep hb1).keep (alloc_below w3 o))
  have BB3 := Lib.hid (fun o => (BB.out.keep hb1).keep (alloc_below w3 o))
  have BC := Lib.hid (AnB.new ho FY.out)
  clear t0 t1 t2 x0 x1 x2
  have t0 := fun o => (K3.out o).tb.cells.1
  have t1 := fun o => (K3.out o).tb.cells.2.1
  have t2 := fun o => (K3.out o).tb.cells.2.2
  have x0 := fun o => (K3.out o).xb.cells.1
  have x1 := fun o => (K3.out o).xb.cells.2.1
  have x2 := fun o => (K3.out o).xb.cells.2.2
  clear hb1 ho K2 BA2 BB hpy
  go_wp2_with fail
  refine (rput_tree t A c x Ax cx A1 n cap zs _ (by exact (K3.out _).isT) (by exact (K3.out _).isX) hz hn hnc (by exact (K3.out _).path)).mono ?_
  rintro e w4 ⟨hb1, A5, c5, ho, rfl⟩
  rw [← HPY.out] at ho ⊢
  simp only at ho ⊢
  have K4 := Lib.hid (fun o => ((K3.out _).keep hb1).keep (alloc_below w4 o))
  have BA4 := Lib.hid (fun o => ((BA3.out _).keep hb1).keep (alloc_below w4 o))
  have BB4 := Lib.hid (fun o => ((BB3.out _).keep hb1).keep (alloc_below w4 o))
  have BC4 := Lib.hid (fun o => (BC.out.keep hb1).keep (alloc_below w4 o))
  have BD4 := Lib.hid (AnB.new ho FY.out)
  have a0 := fun o => (BA4.out o).box.cells.1
  have a1 := fun o => (BA4.out o).box.cells.2.1
  have a2 := fun o => (BA4.out o).box.cells.2.2
  have b0 := fun o => (BB4.out o).box.cells.1
  have b1 := fun o => (BB4.out o).box.cells.2.1
  have b2 := fun o => (BB4.out o).box.cells.2.2
  clear hb1 ho K3 BA3 BB3 BC t0 t1 t2 x0 x1 x2
  go_wp2_with fail
  refine (like_any p p A2 A3 c2 c3 _ (by exact (BA4.out _).is) (by exact (BB4.out _).is)).mono ?_
  rintro e w5 ⟨rfl, hb1⟩
  rw [likeB_self]
  have K5 := Lib.hid ((K4.out _).keep hb1)
  have BC5 := Lib.hid ((BC4.out _).keep hb1)
  have BD5 := Lib.hid (BD4.out.keep hb1)
  obtain ⟨d0, d1, d2⟩ := BC5.out.box.cells
  obtain ⟨e0, e1, e2⟩ := BD5.out.box.cells
  clear hb1 K4 BA4 BB4 BC4 BD4 a0 a1 a2 b0 b1 b2
  go_wp2_with fail
  refine (like_any y y A4 A5 c4 c5 _ (by exact BC5.out.is) (by exact BD5.out.is)).mono ?_
  rintro e w6 ⟨rfl, hb1⟩
  rw [likeB_self]
  have K6 := Lib.hid (K5.out.keep hb1)
  clear hb1 d0 d1 d2 e0 e1 e2
  go_wp2_with fail
  go_ret
  exact ⟨rfl, K6.out.below⟩
/-- a slice of integers that came in, as a row that is read -/
theorem rd_of_ints {a : Option Addr} {l c : Nat} {zs : List Int} {w : World} (h : IsRow .i64 w a l c zs) : (zs.take l).length = l ∧ Rd .i64 w w.heap.size a (zs.take l) ∧ l ≤ c ∧ l ≤ maxLen := by
  rcases h with ⟨rfl, rfl, rfl, rfl⟩ | ⟨x, rfl, hl, hm, hz, hc, _⟩
  · exact ⟨rfl, fun j hj => by simp at hj, Nat.le_refl _, by unfold maxLen; omega⟩
  · refine ⟨by simp; omega, fun j hj => ?_, hl, by omega⟩
    have hj1 : j < l := by simp at hj; omega
    have h1 := hc j (by omega)
    refine ⟨x, rfl, ?_, ?_⟩
    · have := block_lt_of_cell h1
      rwa [add_block] at this
    · rw [h1]
      congr 2
      simp [List.getD_eq_getElem?_getD, hj1]
theorem parts_row (t x : Tr) (A Ax : Option Addr) (c cx : Nat) (a : Option Addr) (l cc : Nat) (zs : List Int) (w : World) (ht : IsT w w.heap.size t A c) (hx : IsT w w.heap.size x Ax cx) (h : IsRow .i64 w a l cc zs) :
    Calls Try.prog 3 #[.agg #[.int .i64 t.k, .int .i64 t.i, .slice A t.ks.length c], .agg #[.int .i64 x.k, .int .i64 x.i, .slice Ax x.ks.length cx], .slice a l cc] w fun e w' => e = .returned (.bool true) ∧ Below w.heap.size w w' := by
  obtain ⟨h1, h2, h3, h4⟩ := rd_of_ints h
  exact parts_any t x A Ax c cx a l cc _ w ht hx h1 h4 h3 h2
end Go.Proofs.Ytdobpdedphkglaa
