/- The law ExprOwn, walked. -/
import Derived.Test.YtdobpdedphkglaaL5
import Derived.Test.YtdobpdedphkglaaE34
namespace Go.Proofs.Ytdobpdedphkglaa
open Go.RowKit Go.Shelf
attribute [local go_sem] Oper.semAt_some
/-- two trees and a path that came in, a copy of each tree; all of it below block B -/
structure Ob (w W : World) (B : Nat) (t : Tr) (A : Option Addr) (c : Nat) (x : Tr) (Ax : Option Addr) (cx : Nat) (A1 : Option Addr) (zs : List Int) (b7 : Nat) (A7 : Option Addr) (c7 : Nat) (b8 : Nat) (A8 : Option Addr) (c8 : Nat) : Prop where
  tb : Box3 W w.heap.size (.int .i64 t.k) (.int .i64 t.i) (.slice A t.ks.length c)
  xb : Box3 W (w.heap.size + 1) (.int .i64 x.k) (.int .i64 x.i) (.slice Ax x.ks.length cx)
  wb : Box3 W b7 (.int .i64 t.k) (.int .i64 t.i) (.slice A7 t.ks.length c7)
  pb : Box3 W b8 (.int .i64 x.k) (.int .i64 x.i) (.slice A8 x.ks.length c8)
  isT : IsT W B t A c
  isX : IsT W B x Ax cx
  isW : IsT W B t A7 c7
  isP : IsT W B x A8 c8
  path : Rd .i64 W B A1 zs
  below : Below w.heap.size w W
  lt0 : w.heap.size + 1 < B
  lt7 : b7 < B
  lt8 : b8 < B
  le : B ≤ W.heap.size
theorem Ob.keep {w W W' : World} {B : Nat} {t : Tr} {A : Option Addr} {c : Nat} {x : Tr} {Ax : Option Addr} {cx : Nat} {A1 : Option Addr} {zs : List Int} {b7 : Nat} {A7 : Option Addr} {c7 : Nat} {b8 : Nat} {A8 : Option Addr} {c8 : Nat} (h : Ob w W B t A c x Ax cx A1 zs b7 A7 c7 b8 A8 c8) (hb : Below B W W') : Ob w W' B t A c x Ax cx A1 zs b7 A7 c7 b8 A8 c8 := by
  have := h.lt0
  exact ⟨h.tb.keep hb (by omega), h.xb.keep hb (by omega), h.wb.keep hb h.lt7, h.pb.keep hb h.lt8, h.isT.keep hb (Nat.le_refl _), h.isX.keep hb (Nat.le_refl _), h.isW.keep hb (Nat.le_refl _), h.isP.keep hb (Nat.le_refl _), h.path.keep hb (Nat.le_refl _), h.below.trans (hb.mono (by omega)), h.lt0, h.lt7, h.lt8, Nat.le_trans h.le hb.size⟩
section
variable {w W : World} {B : Nat} {t : Tr} {A : Option Addr} {c : Nat} {x : Tr} {Ax : Option Addr} {cx : Nat} {A1 : Option Addr} {zs : List Int} {b7 : Nat} {A7 : Option Addr} {c7 : Nat} {b8 : Nat} {A8 : Option Addr} {c8 : Nat}
theorem Ob.tT (h : Ob w W B t A c x Ax cx A1 zs b7 A7 c7 b8 A8 c8) : IsT W W.heap.size t A c := h.isT.keep (Below.refl _ _) h.le
theorem Ob.xT (h : Ob w W B t A c x Ax cx A1 zs b7 A7 c7 b8 A8 c8) : IsT W W.heap.size x Ax cx := h.isX.keep (Below.refl _ _) h.le
theorem Ob.wT (h : Ob w W B t A c x Ax cx A1 zs b7 A7 c7 b8 A8 c8) : IsT W W.heap.size t A7 c7 := h.isW.keep (Below.refl _ _) h.le
theorem Ob.pT (h : Ob w W B t A c x Ax cx A1 zs b7 A7 c7 b8 A8 c8) : IsT W W.heap.size x A8 c8 := h.isP.keep (Below.refl _ _) h.le
theorem Ob.rd (h : Ob w W B t A c x Ax cx A1 zs b7 A7 c7 b8 A8 c8) : Rd .i64 W W.heap.size A1 zs := h.path.keep (Below.refl _ _) h.le
theorem Ob.next (h : Ob w W B t A c x Ax cx A1 zs b7 A7 c7 b8 A8 c8) {W' : World} (hb : Below W.heap.size W W') : Ob w W' B t A c x Ax cx A1 zs b7 A7 c7 b8 A8 c8 := h.keep (hb.mono h.le)
end
/-- an answer of one's own, boxed -/
structure AnO (W : World) (lo hi b : Nat) (p : Tr) (A : Option Addr) (c : Nat) : Prop where
  own : OwnT W lo hi p A c
  box : Box3 W b (.int .i64 p.k) (.int .i64 p.i) (.slice A p.ks.length c)
  le : hi ≤ b
theorem AnO.new {W : World} {lo : Nat} {p : Tr} {A : Option Addr} {c : Nat} (h : OwnT W lo W.heap.size p A c) : AnO (W.alloc (.cells #[.int .i64 p.k, .int .i64 p.i, .slice A p.ks.length c] 24)) lo W.heap.size W.heap.size p A c :=
  ⟨h.same _ (SameIn.of_below (alloc_below W _) (Nat.le_refl _)), Box3.new _ _ _ _, Nat.le_refl _⟩
theorem AnO.keep {W W' : World} {lo hi b : Nat} {p : Tr} {A : Option Addr} {c : Nat} (h : AnO W lo hi b p A c) (hb : Below W.heap.size W W') : AnO W' lo hi b p A c :=
  ⟨h.own.same _ (SameIn.of_below hb (Nat.le_trans h.le (Nat.le_of_lt h.box.lt))), h.box.keep hb h.box.lt, h.le⟩
theorem AnO.spo {W W' : World} {lo hi b l1 h1 : Nat} {p : Tr} {A : Option Addr} {c : Nat} (h : AnO W lo hi b p A c) (hs : Spo l1 h1 W W') (hd : h1 ≤ lo) : AnO W' lo hi b p A c := by
  have := h.box.lt
  have := h.le
  have := h.own.le
  exact ⟨h.own.same _ (fun k k1 k2 => hs.rest k (by omega) (by omega)), h.box.spo hs (by omega), h.le⟩
theorem AnO.is {W : World} {lo hi b : Nat} {p : Tr} {A : Option Addr} {c : Nat} (h : AnO W lo hi b p A c) (hf : p.fit) : IsT W W.heap.size p A c := h.own.isT p (Nat.le_trans h.le (Nat.le_of_lt h.box.lt)) hf
set_option maxRecDepth 100000 in
set_option maxHeartbeats 8000000 in
theorem own_any (t x : Tr) (A Ax : Option Addr) (c cx : Nat) (A1 : Option Addr) (n cap : Nat) (zs : List Int) (w : World) (ht : IsT w w.heap.size t A c) (hx : IsT w w.heap.size x Ax cx) (hz : zs.length = n) (hn : n ≤ maxLen) (hnc : n ≤ cap) (hr : Rd .i64 w w.heap.size A1 zs) :
    Calls Try.prog 5 #[.agg #[.int .i64 t.k, .int .i64 t.i, .slice A t.ks.length c], .agg #[.int .i64 x.k, .int .i64 x.i, .slice Ax x.ks.length cx], .slice A1 n cap] w fun e w' => e = .returned (.bool true) ∧ Below w.heap.size w w' := by
  have K0 := Lib.hid (Qk.start ht hx hr)
  have FT := Lib.hid (ht.fit t)
  have FX := Lib.hid (hx.fit x)
  have FP := Lib.hid (atN_fit (zs := zs) (ht.fit t))
  have FY := Lib.hid (putR_fit (zs := zs) (ht.fit t) (hx.fit x))
  have HZ := Lib.hid hz
  clear ht hx hr hz
  refine (callsIn_wide (n := 6)).1 ?_
  refine callsIn_of_wp_marks Try.func5 rfl trivial ?_ rfl
  simp only [Try.ntmps5, List.size_toArray, List.length_cons, List.length_nil, Nat.reduceAdd, Nat.reduceSub, Array.replicate_succ, Array.replicate_zero, List.push_toArray, List.append_toArray, List.nil_append, List.cons_append]
  gi_wp2_with fail
  refine ⟨trivial, ?_⟩
  refine (callsIn_wide.2 (copy_any t.sz t A c _ (Nat.le_refl _) (by exact K0.out.isT))).mono ?_
  rintro e w1 ⟨A7, c7, rfl, ho, hb1⟩
  have K1 := Lib.hid (fun o => (K0.out.keep hb1).keep (alloc_below w1 o))
  have BW := Lib.hid (AnB.new ho FT.out)
  have x0 := fun o => (K1.out o).xb.cells.1
  have x1 := fun o => (K1.out o).xb.cells.2.1
  have x2 := fun o => (K1.out o).xb.cells.2.2
  clear hb1 ho K0
  gi_wp2_with fail
  refine ⟨trivial, ?_⟩
  refine (callsIn_wide.2 (copy_any x.sz x Ax cx _ (Nat.le_refl _) (by exact (K1.out _).isX))).mono ?_
  rintro e w2 ⟨A8, c8, rfl, ho, hb1⟩
  have OB := Lib.hid (show Ob w (w2.alloc (.cells #[.int .i64 x.k, .int .i64 x.i, .slice A8 x.ks.length c8] 24)) (w2.heap.size + 1) t A c x Ax cx A1 zs w1.heap.size A7 c7 w2.heap.size A8 c8 from by
    have q := ((K1.out _).keep hb1).keep (alloc_below w2 (.cells #[.int .i64 x.k, .int .i64 x.i, .slice A8 x.ks.length c8] 24))
    have r := (BW.out.keep hb1).keep (alloc_below w2 (.cells #[.int .i64 x.k, .int .i64 x.i, .slice A8 x.ks.length c8] 24))
    have s := AnB.new ho FX.out
    have hs : (w2.alloc (.cells #[.int .i64 x.k, .int .i64 x.i, .slice A8 x.ks.length c8] 24)).heap.size = w2.heap.size + 1 := by simp
    have e1 := q.isT; have e2 := q.isX; have e3 := r.is; have e4 := s.is; have e5 := q.path; have e6 := q.xb.lt; have e7 := r.box.lt; have e8 := s.box.lt
    rw [hs] at e1 e2 e3 e4 e5 e6 e7 e8
    exact ⟨q.tb, q.xb, r.box, s.box, e1, e2, e3, e4, e5, q.below, e6, e7, e8, by omega⟩)
  obtain ⟨t0, t1, t2⟩ := OB.out.tb.cells
  clear hb1 ho K1 BW x0 x1 x2
  gi_wp2_with fail
  refine ⟨trivial, ?_⟩
  refine (callsIn_wide.2 (at_any t A c A1 n cap zs _ (by simpa using OB.out.isT) HZ.out hn (by simpa using OB.out.path))).mono ?_
  rintro e w3 ⟨hb1, A2, c2, ho, rfl⟩
  obtain ⟨pa, hpa⟩ : ∃ pa, pa = atN t zs := ⟨_, rfl⟩
  have HPA := Lib.hid hpa
  rw [← hpa] at ho FP ⊢
  obtain ⟨p, f⟩ := pa
  simp only at ho FP ⊢
  simp only [World.size_alloc] at ho hb1
  have OB3 := Lib.hid (fun o => (OB.out.keep hb1).keep ((alloc_below w3 o).mono (by have := hb1.size; simpa using this)))
  have XA := Lib.hid (AnO.new ho)
  have t0 := fun o => (OB3.out o).tb.cells.1
  have t1 := fun o => (OB3.out o).tb.cells.2.1
  have t2 := fun o => (OB3.out o).tb.cells.2.2
  have x0 := fun o => (OB3.out o).xb.cells.1
  have x1 := fun o => (OB3.out o).xb.cells.2.1
  have x2 := fun o => (OB3.out o).xb.cells.2.2
  have hsz3 : w2.heap.size + 1 ≤ w3.heap.size := by have := hb1.size; simpa using this
  clear hb1 ho hpa OB
  gi_wp2_with fail
  refine ⟨trivial, ?_⟩
  refine (callsIn_wide.2 (put_tree t A c x Ax cx A1 n cap zs _ (by exact (OB3.out _).tT) (by exact (OB3.out _).xT) HZ.out hn hnc (by exact (OB3.out _).rd))).mono ?_
  rintro e w4 ⟨hb1, A3, c3, ho, rfl⟩
  obtain ⟨py, hpy⟩ : ∃ py, py = putR t x zs := ⟨_, rfl⟩
  have HPY := Lib.hid hpy
  rw [← hpy] at ho FY ⊢
  obtain ⟨y, g⟩ := py
  simp only at ho FY ⊢
  have OB4 := Lib.hid (fun o => ((OB3.out _).next hb1).next (alloc_below w4 o))
  have XA4 := Lib.hid (fun o => (XA.out.keep hb1).keep (alloc_below w4 o))
  simp only [World.size_alloc] at ho hb1
  have XB := Lib.hid (AnO.new ho)
  clear t0 t1 t2 x0 x1 x2
  have t0 := fun o => (OB4.out o).tb.cells.1
  have t1 := fun o => (OB4.out o).tb.cells.2.1
  have t2 := fun o => (OB4.out o).tb.cells.2.2
  have x0 := fun o => (OB4.out o).xb.cells.1
  have x1 := fun o => (OB4.out o).xb.cells.2.1
  have x2 := fun o => (OB4.out o).xb.cells.2.2
  clear hb1 ho hpy OB3 XA
  gi_wp2_with fail
  refine ⟨trivial, ?_⟩
  refine (callsIn_wide.2 (put_tree t A c x Ax cx A1 n cap zs _ (by exact (OB4.out _).tT) (by exact (OB4.out _).xT) HZ.out hn hnc (by exact (OB4.out _).rd))).mono ?_
  rintro e w5 ⟨hb1, A4, c4, ho, rfl⟩
  rw [← HPY.out] at ho ⊢
  simp only at ho ⊢
  have OB5 := Lib.hid (fun o => ((OB4.out _).next hb1).next (alloc_below w5 o))
  have XA5 := Lib.hid (fun o => ((XA4.out _).keep hb1).keep (alloc_below w5 o))
  have XB5 := Lib.hid (fun o => (XB.out.keep hb1).keep (alloc_below w5 o))
  simp only [World.size_alloc] at ho hb1
  have XC := Lib.hid (AnO.new ho)
  clear t0 t1 t2 x0 x1 x2
  have t0 := fun o => (OB5.out o).wb.cells.1
  have t1 := fun o => (OB5.out o).wb.cells.2.1
  have t2 := fun o => (OB5.out o).wb.cells.2.2
  have x0 := fun o => (OB5.out o).pb.cells.1
  have x1 := fun o => (OB5.out o).pb.cells.2.1
  have x2 := fun o => (OB5.out o).pb.cells.2.2
  clear hb1 ho OB4 XA4 XB
  gi_wp2_with fail
  refine ⟨trivial, ?_⟩
  refine (callsIn_wide.2 (rput_tree t A7 c7 x A8 c8 A1 n cap zs _ (by exact (OB5.out _).wT) (by exact (OB5.out _).pT) HZ.out hn hnc (by exact (OB5.out _).rd))).mono ?_
  rintro e w6 ⟨hb1, A5, c5, ho, rfl⟩
  rw [← HPY.out] at ho ⊢
  simp only at ho ⊢
  have OB6 := Lib.hid (fun o => ((OB5.out _).next hb1).next (alloc_below w6 o))
  have XA6 := Lib.hid (fun o => ((XA5.out _).keep hb1).keep (alloc_below w6 o))
  have XB6 := Lib.hid (fun o => ((XB5.out _).keep hb1).keep (alloc_below w6 o))
  have XC6 := Lib.hid (fun o => (XC.out.keep hb1).keep (alloc_below w6 o))
  simp only [World.size_alloc] at ho hb1
  have XD := Lib.hid (AnO.new ho)
  clear t0 t1 t2 x0 x1 x2
  have t0 := fun o => (OB6.out o).wb.cells.1
  have t1 := fun o => (OB6.out o).wb.cells.2.1
  have t2 := fun o => (OB6.out o).wb.cells.2.2
  clear hb1 ho OB5 XA5 XB5 XC HPY
  gi_wp2_with fail
  refine ⟨trivial, ?_⟩
  refine (callsIn_wide.2 (rat_any t A7 c7 A1 n cap zs _ (by exact (OB6.out _).wT) HZ.out hn (by exact (OB6.out _).rd))).mono ?_
  rintro e w7 ⟨hb1, A6, c6, ho, rfl⟩
  rw [← HPA.out] at ho ⊢
  simp only at ho ⊢
  have OB7 := Lib.hid (fun o => ((OB6.out _).next hb1).next (alloc_below w7 o))
  have XA7 := Lib.hid (fun o => ((XA6.out _).keep hb1).keep (alloc_below w7 o))
  have XB7 := Lib.hid (fun o => ((XB6.out _).keep hb1).keep (alloc_below w7 o))
  have XC7 := Lib.hid (fun o => ((XC6.out _).keep hb1).keep (alloc_below w7 o))
  have XD7 := Lib.hid (fun o => (XD.out.keep hb1).keep (alloc_below w7 o))
  simp only [World.size_alloc] at ho hb1
  have XE := Lib.hid (AnO.new ho)
  clear t0 t1 t2
  have a0 := fun o => (XA7.out o).box.cells.1
  have a1 := fun o => (XA7.out o).box.cells.2.1
  have a2 := fun o => (XA7.out o).box.cells.2.2
  clear hb1 ho OB6 XA6 XB6 XC6 XD HPA
  gi_wp2_with fail
  refine ⟨trivial, ?_⟩
  refine (callsIn_wide.2 (like_any p p A2 A6 c2 c6 _ (by exact (XA7.out _).is FP.out) (by exact XE.out.is FP.out))).mono ?_
  rintro e w8 ⟨rfl, hb1⟩
  rw [likeB_self]
  have OB8 := Lib.hid ((OB7.out _).next hb1)
  have XA8 := Lib.hid ((XA7.out _).keep hb1)
  have XB8 := Lib.hid ((XB7.out _).keep hb1)
  have XC8 := Lib.hid ((XC7.out _).keep hb1)
  have XD8 := Lib.hid ((XD7.out _).keep hb1)
  clear hb1 OB7 XA7 XB7 XC7 XD7 XE a0 a1 a2
  obtain ⟨a0, a1, a2⟩ := XA8.out.box.cells
  gi_wp2_with fail
  refine ⟨trivial, ?_⟩
  refine (callsIn_wide.2 (spoil_any p.sz p _ _ A2 c2 _ (Nat.le_refl _) (by exact XA8.out.own) (Nat.le_trans XA8.out.le (Nat.le_of_lt XA8.out.box.lt)) FP.out)).mono ?_
  rintro e w9 ⟨⟨v9, rfl⟩, hs⟩
  have hsb := XB8.out.own.le
  have hsc := XC8.out.own.le
  have hsd := XD8.out.own.le
  have OB9 := Lib.hid (OB8.out.keep hs.below)
  have XB9 := Lib.hid (XB8.out.spo hs (by omega))
  have XC9 := Lib.hid (XC8.out.spo hs (by omega))
  have XD9 := Lib.hid (XD8.out.spo hs (by omega))
  clear hs OB8 XA8 XB8 XC8 XD8 a0 a1 a2
  obtain ⟨a0, a1, a2⟩ := XB9.out.box.cells
  gi_wp2_with fail
  refine ⟨trivial, ?_⟩
  refine (callsIn_wide.2 (spoil_any y.sz y _ _ A3 c3 _ (Nat.le_refl _) (by exact XB9.out.own) (Nat.le_trans XB9.out.le (Nat.le_of_lt XB9.out.box.lt)) FY.out)).mono ?_
  rintro e w10 ⟨⟨v10, rfl⟩, hs⟩
  have OB10 := Lib.hid (OB9.out.keep (hs.below.mono (by omega)))
  have XC10 := Lib.hid (XC9.out.spo hs (by omega))
  have XD10 := Lib.hid (XD9.out.spo hs (by omega))
  clear hs OB9 XB9 XC9 XD9 a0 a1 a2
  obtain ⟨t0, t1, t2⟩ := OB10.out.tb.cells
  obtain ⟨x0, x1, x2⟩ := OB10.out.wb.cells
  gi_wp2_with fail
  refine ⟨trivial, ?_⟩
  refine (callsIn_wide.2 (like_any t t A A7 c c7 _ (by exact OB10.out.tT) (by exact OB10.out.wT))).mono ?_
  rintro e w11 ⟨rfl, hb1⟩
  rw [likeB_self]
  have OB11 := Lib.hid (OB10.out.next hb1)
  have XC11 := Lib.hid (XC10.out.keep hb1)
  have XD11 := Lib.hid (XD10.out.keep hb1)
  clear hb1 OB10 XC10 XD10 t0 t1 t2 x0 x1 x2
  obtain ⟨t0, t1, t2⟩ := OB11.out.xb.cells
  obtain ⟨x0, x1, x2⟩ := OB11.out.pb.cells
  gi_wp2_with fail
  refine ⟨trivial, ?_⟩
  refine (callsIn_wide.2 (like_any x x Ax A8 cx c8 _ (by exact OB11.out.xT) (by exact OB11.out.pT))).mono ?_
  rintro e w12 ⟨rfl, hb1⟩
  rw [likeB_self]
  have OB12 := Lib.hid (OB11.out.next hb1)
  have XC12 := Lib.hid (XC11.out.keep hb1)
  have XD12 := Lib.hid (XD11.out.keep hb1)
  clear hb1 OB11 XC11 XD11 t0 t1 t2 x0 x1 x2
  obtain ⟨t0, t1, t2⟩ := XC12.out.box.cells
  obtain ⟨x0, x1, x2⟩ := XD12.out.box.cells
  gi_wp2_with fail
  refine ⟨trivial, ?_⟩
  refine (callsIn_wide.2 (like_any y y A4 A5 c4 c5 _ (by exact XC12.out.is FY.out) (by exact XD12.out.is FY.out))).mono ?_
  rintro e w13 ⟨rfl, hb1⟩
  rw [likeB_self]
  have OB13 := Lib.hid (OB12.out.next hb1)
  clear hb1 OB12 XC12 XD12 t0 t1 t2 x0 x1 x2
  obtain ⟨t0, t1, t2⟩ := OB13.out.tb.cells
  gi_wp2_with fail
  refine ⟨trivial, ?_⟩
  refine (callsIn_wide.2 (all_any t A c _ (by exact OB13.out.tT))).mono ?_
  rintro e w14 ⟨hb1, hcase⟩
  have OB14 := Lib.hid (OB13.out.next hb1)
  clear hb1 OB13 t0 t1 t2
  rcases hcase with ⟨hr, rfl⟩ | ⟨hr, bk, Ak, ck, rfl, hbk, hk⟩
  · gi_wp2_with fail
    refine wpIn_rangeFunc_ownH (α := Empty) rfl (by omega) (gf := 40) (lb := #[]) rfl trivial (enters_of Try.func40 (by kernel_rfl) rfl)
      (all1_stops (fun x : Empty => x.elim) (fun _ _ => True) _ w14) (fun _ _ => trivial) (fun _ _ _ _ _ _ _ _ => trivial) (Below.refl _ _) (fun x => x.elim)
      (fun _ W => Below w14.heap.size w14 W) (fun _ _ _ => False) (ownFrom_below (Nat.le_refl _) (Nat.le_refl _)) (fun co s X Y row hs _ _ => hs.elim) (Below.refl _ _) (fun _ _ _ => False) (fun x => x.elim) (fun _ _ x => x.elim) (fun _ _ x => x.elim) ?done1 (fun _ _ _ _ _ hf _ _ => hf.elim)
    case done1 =>
      rintro D ys W hD hS hB hK
      have OB15 := Lib.hid (OB14.out.next hB)
      obtain ⟨t0, t1, t2⟩ := OB15.out.tb.cells
      obtain ⟨x0, x1, x2⟩ := OB15.out.wb.cells
      gi_wp2_with fail
      refine ⟨trivial, ?_⟩
      refine (callsIn_wide.2 (like_any t t A A7 c c7 _ (by exact OB15.out.tT) (by exact OB15.out.wT))).mono ?_
      rintro e w16 ⟨rfl, hb1⟩
      rw [likeB_self]
      have hlt := (Array.getElem?_eq_some_iff.1 hK).1
      have hK2 := (hb1.block D hlt).trans hK
      have OB16 := Lib.hid (OB15.out.next hb1)
      clear hb1 OB15 t0 t1 t2 x0 x1 x2
      gi_wp2_with fail
      refine ⟨by simp, .inl ⟨_, _, rfl, run_takeDeferred hK2, ?_⟩⟩
      exact ⟨.bool true, by simp [results, Try.results5, go_sem], rfl, below_left OB16.out.below (by have := OB14.out.below.size; omega) hK2 _⟩
  · gi_wp2_with fail
    refine range_all (by omega) rfl rfl hbk hk ?round ?done2
    case round =>
      intro W d q A' c' lo hi hW hq hf hlo hhi hs
      have HQ := Lib.hid hq
      simp only [Array.zip_eq_zipWith, List.zipWith_toArray, List.foldl_toArray]
      gi_wp2_with fail
      refine ⟨alloc_below _ _, fun W2 hsz hsame => ?_⟩
      have bx : Box3 W2 W.heap.size (.int .i64 q.k) (.int .i64 q.i) (.slice A' q.ks.length c') := (hsame _ (by omega)).trans (Box3.new W _ _ _)
      obtain ⟨a0, a1, a2⟩ := bx.cells
      have HQ2 := Lib.hid (HQ.out.same _ (w' := W2) (fun k k1 k2 => (hsame k (by omega)).trans ((alloc_below W _).block k (by omega))))
      have hsz2 : hi ≤ W2.heap.size := by rw [hsz]; simp; omega
      clear hsz hsame bx
      gi_wp2_with fail
      refine ⟨trivial, ?_⟩
      refine ⟨rfl, ?_⟩
      refine (CallsIn.inRound _ (callsIn_wide.2 (spoil_any q.sz q lo hi A' c' _ (Nat.le_refl _) (by exact HQ2.out) hsz2 hf))).mono ?_
      rintro e W3 ⟨⟨v, rfl⟩, hs3⟩
      gi_wp2_with fail
    case done2 =>
      rintro D W hD hB hK
      have OB15 := Lib.hid (OB14.out.next hB)
      obtain ⟨t0, t1, t2⟩ := OB15.out.tb.cells
      obtain ⟨x0, x1, x2⟩ := OB15.out.wb.cells
      gi_wp2_with fail
      refine ⟨trivial, ?_⟩
      refine (callsIn_wide.2 (like_any t t A A7 c c7 _ (by exact OB15.out.tT) (by exact OB15.out.wT))).mono ?_
      rintro e w16 ⟨rfl, hb1⟩
      rw [likeB_self]
      have hlt := (Array.getElem?_eq_some_iff.1 hK).1
      have hK2 := (hb1.block D hlt).trans hK
      have OB16 := Lib.hid (OB15.out.next hb1)
      clear hb1 OB15 t0 t1 t2 x0 x1 x2
      gi_wp2_with fail
      refine ⟨by simp, .inl ⟨_, _, rfl, run_takeDeferred hK2, ?_⟩⟩
      exact ⟨.bool true, by simp [results, Try.results5, go_sem], rfl, below_left OB16.out.below (by have := OB14.out.below.size; omega) hK2 _⟩
theorem own_row (t x : Tr) (A Ax : Option Addr) (c cx : Nat) (a : Option Addr) (l cc : Nat) (zs : List Int) (w : World) (ht : IsT w w.heap.size t A c) (hx : IsT w w.heap.size x Ax cx) (h : IsRow .i64 w a l cc zs) :
    Calls Try.prog 5 #[.agg #[.int .i64 t.k, .int .i64 t.i, .slice A t.ks.length c], .agg #[.int .i64 x.k, .int .i64 x.i, .slice Ax x.ks.length cx], .slice a l cc] w fun e w' => e = .returned (.bool true) ∧ Below w.heap.size w w' := by
  obtain ⟨h1, h2, h3, h4⟩ := rd_of_ints h
  exact own_any t x A Ax c cx a l cc _ w ht hx h1 h4 h3 h2
end Go.Proofs.Ytdobpdedphkglaa
