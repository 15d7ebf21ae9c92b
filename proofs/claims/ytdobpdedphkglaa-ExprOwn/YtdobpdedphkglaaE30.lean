/- Put of package expr. -/
import Derived.Test.YtdobpdedphkglaaE29
import Derived.Test.YtdobpdedphkglaaE28
import Derived.Test.YtdobpdedphkglaaE12
import Derived.Test.YtdobpdedphkglaaT8
namespace Go.Proofs.Ytdobpdedphkglaa
open Go.RowKit Go.Sort
/-- two trees, a path, three boxes -/
structure Pk (w W : World) (t : Tr) (A : Option Addr) (c : Nat) (x : Tr) (Ax : Option Addr) (cx : Nat) (A1 : Option Addr) (zs : List Int) : Prop where
  tb : Box3 W w.heap.size (.int .i64 t.k) (.int .i64 t.i) (.slice A t.ks.length c)
  xb : Box3 W (w.heap.size + 1) (.int .i64 x.k) (.int .i64 x.i) (.slice Ax x.ks.length cx)
  rb : Box3 W (w.heap.size + 2) (.int .i64 0) (.int .i64 0) (.slice none 0 0)
  isT : IsT W W.heap.size t A c
  isX : IsT W W.heap.size x Ax cx
  path : Rd .i64 W W.heap.size A1 zs
  below : Below w.heap.size w W
theorem Pk.keep {w W W' : World} {t : Tr} {A : Option Addr} {c : Nat} {x : Tr} {Ax : Option Addr} {cx : Nat} {A1 : Option Addr} {zs : List Int} (h : Pk w W t A c x Ax cx A1 zs) (hb : Below W.heap.size W W') : Pk w W' t A c x Ax cx A1 zs :=
  ⟨h.tb.keep hb h.tb.lt, h.xb.keep hb h.xb.lt, h.rb.keep hb h.rb.lt, h.isT.keep hb hb.size, h.isX.keep hb hb.size, h.path.upZ hb, h.below.trans (hb.mono h.below.size)⟩
theorem Pk.start {w : World} {t : Tr} {A : Option Addr} {c : Nat} {x : Tr} {Ax : Option Addr} {cx : Nat} {A1 : Option Addr} {zs : List Int} (ht : IsT w w.heap.size t A c) (hx : IsT w w.heap.size x Ax cx) (hr : Rd .i64 w w.heap.size A1 zs) :
    Pk w (((w.alloc (.cells #[.int .i64 t.k, .int .i64 t.i, .slice A t.ks.length c] 24)).alloc (.cells #[.int .i64 x.k, .int .i64 x.i, .slice Ax x.ks.length cx] 24)).alloc (.cells #[.int .i64 0, .int .i64 0, .slice none 0 0] 24)) t A c x Ax cx A1 zs := by
  obtain ⟨e0, e1, e2, hb0⟩ := three_boxes w (.int .i64 t.k) (.int .i64 t.i) (.slice A t.ks.length c) (.int .i64 x.k) (.int .i64 x.i) (.slice Ax x.ks.length cx) (.int .i64 0) (.int .i64 0) (.slice none 0 0)
  exact ⟨e0, e1, e2, ht.keep hb0 hb0.size, hx.keep hb0 hb0.size, hr.upZ hb0, hb0⟩
theorem Pk.size {w W : World} {t : Tr} {A : Option Addr} {c : Nat} {x : Tr} {Ax : Option Addr} {cx : Nat} {A1 : Option Addr} {zs : List Int} (h : Pk w W t A c x Ax cx A1 zs) : w.heap.size + 2 < W.heap.size := h.rb.lt
theorem isT_two {wr : World} {a b : Tr} {A A' : Option Addr} {c c' : Nat} (ta : IsT wr wr.heap.size a A c) (tb : IsT wr wr.heap.size b A' c') :
    IsT (wr.alloc (.cells #[.int .i64 a.k, .int .i64 a.i, .slice A a.ks.length c, .int .i64 b.k, .int .i64 b.i, .slice A' b.ks.length c'] 24)) (wr.heap.size + 1) (.node 0 0 [a, b]) (some ⟨wr.heap.size, 0, none⟩) 2 := by
  have hb : Below wr.heap.size wr (wr.alloc (.cells #[.int .i64 a.k, .int .i64 a.i, .slice A a.ks.length c, .int .i64 b.k, .int .i64 b.i, .slice A' b.ks.length c'] 24)) := (Below.refl _ _).alloc (Nat.le_refl _) _
  have e := fun j => cell_new3 wr #[.int .i64 a.k, .int .i64 a.i, .slice A a.ks.length c, .int .i64 b.k, .int .i64 b.i, .slice A' b.ks.length c'] 24 j
  refine IsT.mk (t := .node 0 0 [a, b]) (by simp [Tr.ks]) (by simp [Tr.ks, Cap]) fun m hm => ?_
  have hm' : m = 0 ∨ m = 1 := by simp [Tr.ks] at hm; omega
  rcases hm' with rfl | rfl
  · exact ⟨wr.heap.size, 0, A, c, rfl, by omega, e 0, e 1, e 2, ta.keep hb (by omega)⟩
  · exact ⟨wr.heap.size, 0, A', c', rfl, by omega, e 3, e 4, e 5, tb.keep hb (by omega)⟩
set_option maxRecDepth 100000 in
set_option maxHeartbeats 4000000 in
theorem put_tree (t : Tr) (A : Option Addr) (c : Nat) (x : Tr) (Ax : Option Addr) (cx : Nat) (A1 : Option Addr) (n cap : Nat) (zs : List Int) (w : World) (ht : IsT w w.heap.size t A c) (hx : IsT w w.heap.size x Ax cx) (hz : zs.length = n) (hn : n ≤ maxLen) (hnc : n ≤ cap) (hr : Rd .i64 w w.heap.size A1 zs) :
    Calls Try.prog 12 #[.agg #[.int .i64 t.k, .int .i64 t.i, .slice A t.ks.length c], .slice A1 n cap, .agg #[.int .i64 x.k, .int .i64 x.i, .slice Ax x.ks.length cx]] w (AnsPost w (putR t x zs)) := by
  have K0 := Lib.hid (Pk.start ht hx hr)
  have P0 := Lib.hid (isT_two K0.out.isT K0.out.isX)
  have K1 := Lib.hid (K0.out.keep ((Below.refl _ _).alloc (Nat.le_refl _) (.cells #[.int .i64 t.k, .int .i64 t.i, .slice A t.ks.length c, .int .i64 x.k, .int .i64 x.i, .slice Ax x.ks.length cx] 24)))
  have hn' : n ≤ 9223372036854775807 := by unfold maxLen at hn; omega
  have FL := Lib.hid (firstL_two t x)
  clear ht hx hr
  go_enter Try.func12, Try.ntmps12
  go_wp2_with fail
  refine (firstFault_any (.node 0 0 [t, x]) _ 2 _ (by simpa using P0.out)).mono ?_
  rintro e w1 ⟨rfl, hb1⟩
  have K2 := Lib.hid (K1.out.keep (by simpa using hb1))
  obtain ⟨r, hrr⟩ : ∃ r, r = firstL (Tr.node 0 0 [t, x]).ks := ⟨_, rfl⟩
  have RR := Lib.hid (show firstN t x = r by rw [hrr, ← FL.out]; rfl)
  rw [← hrr]
  clear hb1 hrr K0 P0 K1 FL
  obtain ⟨y0, y1, y2⟩ := K2.out.rb.cells
  have f0 := K2.out.rb.frozen 0
  have f1 := K2.out.rb.frozen 1
  have f2 := K2.out.rb.frozen 2
  obtain ⟨t0, t1, t2⟩ := K2.out.tb.cells
  by_cases h0 : r = 0
  · subst h0
    have R1 := Lib.hid (show rightN t = 0 by have := RR.out; unfold firstN at this; split at this <;> omega)
    have R2 := Lib.hid (show rightN x = 0 by have := RR.out; unfold firstN at this; split at this <;> omega)
    clear y0 y1 y2 f0 f1 f2
    go_wp2_with fail
    refine (follow_any t A c A1 n cap zs w1 K2.out.isT hz hn K2.out.path).mono ?_
    rintro e w2 ⟨hb2, hpost⟩
    have K3 := Lib.hid (fun o => (K2.out.keep hb2).keep ((Below.refl w2.heap.size w2).alloc (Nat.le_refl _) o))
    cases hp : partAt t zs with
    | none =>
      rw [hp] at hpost
      subst hpost
      have D := Lib.hid (putR_path R1.out R2.out hp)
      have y0 := fun o => (K3.out o).rb.cells.1
      have y1 := fun o => (K3.out o).rb.cells.2.1
      have y2 := fun o => (K3.out o).rb.cells.2.2
      have f0 := fun o => (K3.out o).rb.frozen 0
      have f1 := fun o => (K3.out o).rb.frozen 1
      have f2 := fun o => (K3.out o).rb.frozen 2
      clear hb2 hp t0 t1 t2
      go_wp2_with fail
      exact bodyPost_ret (v := .tuple #[.agg #[.int .i64 0, .int .i64 0, .slice none 0 0], .int .i64 24]) (by simp [results, Try.results12, go_sem, y0, y1, y2]) rfl (ans_zero D.out (K3.out _).below (by omega))
    | some q =>
      rw [hp] at hpost
      obtain ⟨A2, c2, rfl, hq⟩ := hpost
      have HP := Lib.hid hp
      have IQ0 := Lib.hid (hq.keep hb2 hb2.size)
      clear hb2 hp hq t0 t1 t2
      go_wp2_with fail
      obtain ⟨W, hW⟩ : ∃ W, w2.alloc (.cells #[.int .i64 q.k, .int .i64 q.i, .slice A2 q.ks.length c2] 24) = W := ⟨_, rfl⟩
      have K4 := Lib.hid (show Pk w W t A c x Ax cx A1 zs by rw [← hW]; exact K3.out _)
      have QB := Lib.hid (show Box3 W w2.heap.size (.int .i64 q.k) (.int .i64 q.i) (.slice A2 q.ks.length c2) by rw [← hW]; exact Box3.new _ _ _ _)
      have IQ := Lib.hid (show IsT W W.heap.size q A2 c2 by rw [← hW]; exact IQ0.out.keep ((Below.refl w2.heap.size w2).alloc (Nat.le_refl _) _) (by simp))
      rw [hW]
      clear hW K3 K2 IQ0
      -- the sorts
      have x0' := cell_regrown K4.out.xb.cells.1
      have x1' := cell_regrown K4.out.xb.cells.2.1
      have x2' := cell_regrown K4.out.xb.cells.2.2
      have q0' := cell_regrown QB.out.cells.1
      have q1' := cell_regrown QB.out.cells.2.1
      have q2' := cell_regrown QB.out.cells.2.2
      have CQ := Lib.hid (show ∀ (k i : Int) (A : Option Addr) (m c : Nat) d os, Calls Try.prog 31 #[.agg #[.int .i64 k, .int .i64 i, .slice A m c]] (grow (redrawn W d) os) fun e w'' => e = .returned (.int .i64 (sortN k)) ∧ ∃ p : Regrown, w'' = grow (redrawn W p.d) p.os from
        fun _ _ _ _ _ d os => Calls.regrown_of (sortOf_any _ _ _ _ _ _))
      refine wp_region_quiet_below (by kernel_rfl) (by kernel_rfl) ?_
      repeat (go_big_quiet_step (exact CQ.out _ _ _ _ _ _ _))
      refine wpQuiet_nil ?_
      intro w5 hw'
      obtain ⟨⟨dq, osq⟩, hw''⟩ := hw'
      have hb5 := below_regrown W dq osq
      rw [← hw''] at hb5
      have K5 := Lib.hid (K4.out.keep hb5)
      have QB5 := Lib.hid (QB.out.keep hb5 QB.out.lt)
      have IQ5 := Lib.hid (IQ.out.keep hb5 hb5.size)
      clear hw'' hb5 CQ x0' x1' x2' q0' q1' q2' K4 QB IQ
      by_cases hs : sortN q.k = sortN x.k
      · have hs' : (sortN q.k != sortN x.k) = false := by simpa using hs
        have HS := Lib.hid hs
        clear hs
        go_wp2_with fail
        have t0' := cell_regrown K5.out.tb.cells.1
        have t1' := cell_regrown K5.out.tb.cells.2.1
        have t2' := cell_regrown K5.out.tb.cells.2.2
        have x0' := cell_regrown K5.out.xb.cells.1
        have x1' := cell_regrown K5.out.xb.cells.2.1
        have x2' := cell_regrown K5.out.xb.cells.2.2
        have q0' := cell_regrown QB5.out.cells.1
        have q1' := cell_regrown QB5.out.cells.2.1
        have q2' := cell_regrown QB5.out.cells.2.2
        have ht1 := (right_zero3 R1.out).1
        have hx1 := (right_zero3 R2.out).1
        have hq1 := partAt_sz zs t q HP.out
        have CS := Lib.hid (show ∀ (s : Tr) (B : Option Addr) (b : Nat), s.sz ≤ 1000 → IsT w5 w5.heap.size s B b → ∀ d os, Calls Try.prog 32 #[.agg #[.int .i64 s.k, .int .i64 s.i, .slice B s.ks.length b]] (grow (redrawn w5 d) os) fun e w'' => e = .returned (.int .i64 (s.sz : Nat)) ∧ ∃ p : Regrown, w'' = grow (redrawn w5 p.d) p.os from
          fun s B b h1 h2 d os => Calls.regrown_of (size_small s B b _ (h2.keep (below_regrown w5 d os) (below_regrown w5 d os).size) h1))
        have hq2 : q.sz ≤ 1000 := by omega
        have it := K5.out.isT
        have ix := K5.out.isX
        have iq := IQ5.out
        refine wp_region_quiet_below (by kernel_rfl) (by kernel_rfl) ?_
        repeat (go_big_quiet_step (refine CS.out _ _ _ ?_ ?_ _ _ <;> first | with_reducible exact ht1 | with_reducible exact hx1 | with_reducible exact hq2 | with_reducible exact it | with_reducible exact ix | with_reducible exact iq))
        refine wpQuiet_nil ?_
        intro w6 hw'
        obtain ⟨⟨dq, osq⟩, hw''⟩ := hw'
        have hb6 := below_regrown w5 dq osq
        rw [← hw''] at hb6
        have K6 := Lib.hid (K5.out.keep hb6)
        clear hw'' hb6 it ix iq CS t0' t1' t2' x0' x1' x2' q0' q1' q2' K5 QB5 IQ5
        by_cases hm : 1000 < t.sz - q.sz + x.sz
        · have hm' : (1000 : Int) < (t.sz : Int) - (q.sz : Int) + (x.sz : Int) := by omega
          have D := Lib.hid (putR_many R1.out R2.out HP.out HS.out hm)
          obtain ⟨y0, y1, y2⟩ := K6.out.rb.cells
          have f0 := K6.out.rb.frozen 0
          have f1 := K6.out.rb.frozen 1
          have f2 := K6.out.rb.frozen 2
          clear hm
          go_wp2_with fail
          exact bodyPost_ret (v := .tuple #[.agg #[.int .i64 0, .int .i64 0, .slice none 0 0], .int .i64 20]) (by simp [results, Try.results12, go_sem, y0, y1, y2]) rfl (ans_zero D.out K6.out.below (by omega))
        · have hm' : ¬ (1000 : Int) < (t.sz : Int) - (q.sz : Int) + (x.sz : Int) := by omega
          have HM := Lib.hid hm
          clear hm
          obtain ⟨x0, x1, x2⟩ := K6.out.xb.cells
          go_wp2_with fail
          refine (depth_small x Ax cx _ K6.out.isX hx1).mono ?_
          rintro e w7 ⟨rfl, hb7⟩
          have K7 := Lib.hid (K6.out.keep hb7)
          have hxd := (right_zero3 R2.out).2.1
          have hn9 : n ≤ 100 := by have := partAt_dp zs t q HP.out; have := (right_zero3 R1.out).2.1; omega
          have MD := Lib.hid (show min x.dp 101 = x.dp by omega)
          rw [MD.out]
          clear hb7 K6 x0 x1 x2
          by_cases hd : 100 < zs.length + x.dp
          · have hd' : (100 : Int) < (n : Int) + (x.dp : Int) := by omega
            have D := Lib.hid (putR_deep R1.out R2.out HP.out HS.out HM.out hd)
            obtain ⟨y0, y1, y2⟩ := K7.out.rb.cells
            have f0 := K7.out.rb.frozen 0
            have f1 := K7.out.rb.frozen 1
            have f2 := K7.out.rb.frozen 2
            clear hd
            go_wp2_with fail
            exact bodyPost_ret (v := .tuple #[.agg #[.int .i64 0, .int .i64 0, .slice none 0 0], .int .i64 21]) (by simp [results, Try.results12, go_sem, y0, y1, y2]) rfl (ans_zero D.out K7.out.below (by omega))
          · have hd' : ¬ (100 : Int) < (n : Int) + (x.dp : Int) := by omega
            have D := Lib.hid (putR_ok R1.out R2.out HP.out HS.out HM.out hd).1
            obtain ⟨t0, t1, t2⟩ := K7.out.tb.cells
            obtain ⟨x0, x1, x2⟩ := K7.out.xb.cells
            clear hd
            go_wp2_with fail
            refine (replace_any x Ax cx zs t q A c A1 n cap _ hz hnc HP.out K7.out.isT K7.out.isX K7.out.path).mono ?_
            rintro e w8 ⟨A3, c3, rfl, ho, hb8⟩
            have K8 := Lib.hid (K7.out.keep hb8)
            have HO := Lib.hid ho
            have hlo := K7.out.size
            obtain ⟨y0, y1, y2⟩ := K8.out.rb.cells
            have f0 := K8.out.rb.frozen 0
            have f1 := K8.out.rb.frozen 1
            have f2 := K8.out.rb.frozen 2
            obtain ⟨p, hpp⟩ : ∃ p, p = putAt x t zs := ⟨_, rfl⟩
            rw [← hpp] at D HO ⊢
            clear ho hb8 t0 t1 t2 x0 x1 x2 hpp
            go_wp2_with fail
            exact bodyPost_ret (v := .tuple #[.agg #[.int .i64 p.k, .int .i64 p.i, .slice A3 p.ks.length c3], .int .i64 0]) (by simp [results, Try.results12, go_sem, y0, y1, y2]) rfl (ans_tree D.out K8.out.below HO.out (by omega) (by omega))
      · have hs' : (sortN q.k != sortN x.k) = true := by simpa using hs
        have D := Lib.hid (putR_sort R1.out R2.out HP.out hs)
        obtain ⟨y0, y1, y2⟩ := K5.out.rb.cells
        have f0 := K5.out.rb.frozen 0
        have f1 := K5.out.rb.frozen 1
        have f2 := K5.out.rb.frozen 2
        clear hs
        go_wp2_with fail
        exact bodyPost_ret (v := .tuple #[.agg #[.int .i64 0, .int .i64 0, .slice none 0 0], .int .i64 40]) (by simp [results, Try.results12, go_sem, y0, y1, y2]) rfl (ans_zero D.out K5.out.below (by omega))
  · have D := Lib.hid (putR_first (t := t) (x := x) (zs := zs) (r := r) (by have := RR.out; unfold firstN at this; exact this) h0)
    have h1 : ((r : Int) != 0) = true := by rw [bne_iff_ne]; omega
    clear t0 t1 t2
    go_wp2_with fail
    exact bodyPost_ret (v := .tuple #[.agg #[.int .i64 0, .int .i64 0, .slice none 0 0], .int .i64 (r : Int)]) (by simp [results, Try.results12, go_sem, y0, y1, y2]) rfl (ans_zero D.out K2.out.below (by omega))
end Go.Proofs.Ytdobpdedphkglaa
