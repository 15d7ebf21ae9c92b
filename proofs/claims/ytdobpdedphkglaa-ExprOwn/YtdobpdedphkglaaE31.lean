/- The document's Put. -/
import Derived.Test.YtdobpdedphkglaaE30
namespace Go.Proofs.Ytdobpdedphkglaa
open Go.RowKit Go.Sort
theorem putAt_fit (x : Tr) (hx : x.fit) : ∀ (zs : List Int) (t q : Tr), partAt t zs = some q → t.fit → (putAt x t zs).fit := by
  intro zs
  induction zs with
  | nil => intro t q h _; rw [putAt_nil]; exact hx
  | cons i r ih =>
    intro t q h hf
    obtain ⟨m, rfl, hm, hp⟩ := partAt_some h
    rw [putAt_in x t m r hm]
    obtain ⟨h1, h2⟩ := (fit_eq t).1 hf
    refine (fit_eq _).2 ⟨by simpa [Tr.ks] using h1, fun y hy => ?_⟩
    rcases List.mem_or_eq_of_mem_set (show y ∈ t.ks.set m (putAt x t.ks[m] r) from hy) with hy | rfl
    · exact h2 y hy
    · exact ih _ _ hp (h2 _ (List.getElem_mem hm))
theorem putR_right {t x q : Tr} {zs : List Int} (h1 : rightN t = 0) (h2 : rightN x = 0) (h3 : partAt t zs = some q) (h4 : termB q.k = termB x.k) : putR t x zs = if rightN (putAt x t zs) ≠ 0 then (zeroT, rightN (putAt x t zs)) else (putAt x t zs, 0) := by
  unfold putR
  rw [if_neg (by simp [h1]), if_neg (by simp [h2]), h3]
  simp only []
  rw [if_neg (by simp [h4])]
theorem putR_term {t x q : Tr} {zs : List Int} (h1 : rightN t = 0) (h2 : rightN x = 0) (h3 : partAt t zs = some q) (h4 : ¬ termB q.k = termB x.k) : putR t x zs = (zeroT, 40) := by
  unfold putR
  rw [if_neg (by simp [h1]), if_neg (by simp [h2]), h3]
  simp only []
  rw [if_pos h4]
set_option maxRecDepth 100000 in
set_option maxHeartbeats 4000000 in
theorem rput_tree (t : Tr) (A : Option Addr) (c : Nat) (x : Tr) (Ax : Option Addr) (cx : Nat) (A1 : Option Addr) (n cap : Nat) (zs : List Int) (w : World) (ht : IsT w w.heap.size t A c) (hx : IsT w w.heap.size x Ax cx) (hz : zs.length = n) (hn : n ≤ maxLen) (hnc : n ≤ cap) (hr : Rd .i64 w w.heap.size A1 zs) :
    Calls Try.prog 13 #[.agg #[.int .i64 t.k, .int .i64 t.i, .slice A t.ks.length c], .slice A1 n cap, .agg #[.int .i64 x.k, .int .i64 x.i, .slice Ax x.ks.length cx]] w (AnsPost w (putR t x zs)) := by
  have K0 := Lib.hid (Pk.start ht hx hr)
  have hn' : n ≤ 9223372036854775807 := by unfold maxLen at hn; omega
  have FT := Lib.hid (ht.fit t)
  have FX := Lib.hid (hx.fit x)
  clear ht hx hr
  go_enter Try.func13, Try.ntmps13
  go_wp2_with fail
  refine (first_any t x A Ax c cx _ K0.out.isT K0.out.isX).mono ?_
  rintro e w1 ⟨rfl, hb1⟩
  have K2 := Lib.hid (K0.out.keep (by simpa using hb1))
  obtain ⟨r, hrr⟩ : ∃ r, r = firstN t x := ⟨_, rfl⟩
  have RR := Lib.hid (show firstN t x = r by rw [hrr])
  rw [← hrr]
  clear hb1 hrr K0
  obtain ⟨y0, y1, y2⟩ := K2.out.rb.cells
  have f0 := K2.out.rb.frozen 0
  have f1 := K2.out.rb.frozen 1
  have f2 := K2.out.rb.frozen 2
  obtain ⟨t0, t1, t2⟩ := K2.out.tb.cells
  by_cases h0 : r = 0
  · subst h0
    have R1 := Lib.hid (show rightN t = 0 by have := RR.out; unfold firstN at this; split at this <;> omega)
    have R2 := Lib.hid (show rightN x = 0 by have := RR.out; unfold firstN at this; split at this <;> omega)
    clear y0 y1 y2 f0 f1 f2
    go_wp2_with fail
    refine (rat_any t A c A1 n cap zs w1 K2.out.isT hz hn K2.out.path).mono ?_
    rintro e w2 ⟨hb2, A2, c2, ho, rfl⟩
    have K3 := Lib.hid (fun o => (K2.out.keep hb2).keep ((Below.refl w2.heap.size w2).alloc (Nat.le_refl _) o))
    cases hp : partAt t zs with
    | none =>
      have D := Lib.hid (putR_path R1.out R2.out hp)
      have E : atN t zs = (zeroT, 24) := by unfold atN; rw [if_pos R1.out, hp]
      rw [E]
      have y0 := fun o => (K3.out o).rb.cells.1
      have y1 := fun o => (K3.out o).rb.cells.2.1
      have y2 := fun o => (K3.out o).rb.cells.2.2
      have f0 := fun o => (K3.out o).rb.frozen 0
      have f1 := fun o => (K3.out o).rb.frozen 1
      have f2 := fun o => (K3.out o).rb.frozen 2
      clear hb2 hp t0 t1 t2 E ho
      simp only []
      go_wp2_with fail
      exact bodyPost_ret (v := .tuple #[.agg #[.int .i64 0, .int .i64 0, .slice none 0 0], .int .i64 24]) (by simp [results, Try.results13, go_sem, y0, y1, y2]) rfl (ans_zero D.out (K3.out _).below (by omega))
    | some q =>
      have E : atN t zs = (q, 0) := by unfold atN; rw [if_pos R1.out, hp]
      rw [E]
      have HP := Lib.hid hp
      clear hb2 hp t0 t1 t2 E ho
      simp only []
      go_wp2_with fail
      obtain ⟨W, hW⟩ : ∃ W, w2.alloc (.cells #[.int .i64 q.k, .int .i64 q.i, .slice A2 q.ks.length c2] 24) = W := ⟨_, rfl⟩
      have K4 := Lib.hid (show Pk w W t A c x Ax cx A1 zs by rw [← hW]; exact K3.out _)
      have QB := Lib.hid (show Box3 W w2.heap.size (.int .i64 q.k) (.int .i64 q.i) (.slice A2 q.ks.length c2) by rw [← hW]; exact Box3.new _ _ _ _)
      rw [hW]
      clear hW K3 K2
      have x0' := cell_regrown K4.out.xb.cells.1
      have x1' := cell_regrown K4.out.xb.cells.2.1
      have x2' := cell_regrown K4.out.xb.cells.2.2
      have q0' := cell_regrown QB.out.cells.1
      have q1' := cell_regrown QB.out.cells.2.1
      have q2' := cell_regrown QB.out.cells.2.2
      have CQ := Lib.hid (show ∀ (k i : Int) (A : Option Addr) (m c : Nat) d os, Calls Try.prog 36 #[.agg #[.int .i64 k, .int .i64 i, .slice A m c]] (grow (redrawn W d) os) fun e w'' => e = .returned (.bool (termB k)) ∧ ∃ p : Regrown, w'' = grow (redrawn W p.d) p.os from
        fun _ _ _ _ _ d os => Calls.regrown_of (term_any _ _ _ _ _ _))
      refine wp_region_quiet_below (by kernel_rfl) (by kernel_rfl) ?_
      repeat (go_big_quiet_step (exact CQ.out _ _ _ _ _ _ _))
      refine wpQuiet_nil ?_
      intro w5 hw'
      obtain ⟨⟨dq, osq⟩, hw''⟩ := hw'
      have hb5 := below_regrown W dq osq
      rw [← hw''] at hb5
      have K5 := Lib.hid (K4.out.keep hb5)
      clear hw'' hb5 CQ x0' x1' x2' q0' q1' q2' K4 QB
      by_cases hs : termB q.k = termB x.k
      · have D := Lib.hid (putR_right R1.out R2.out HP.out hs)
        rw [hs]
        obtain ⟨b0, hb0⟩ : ∃ b0, b0 = termB x.k := ⟨_, rfl⟩
        rw [← hb0]
        clear hs hb0
        cases b0
        all_goals
          obtain ⟨t0, t1, t2⟩ := K5.out.tb.cells
          obtain ⟨x0, x1, x2⟩ := K5.out.xb.cells
          have FP := Lib.hid (putAt_fit x FX.out zs t q HP.out FT.out)
          go_wp2_with fail
          refine (treeWith_any x Ax cx zs t q A c A1 n cap _ hz hnc HP.out K5.out.isT K5.out.isX K5.out.path).mono ?_
          rintro e w8 ⟨A3, c3, rfl, ho, hb8⟩
          have hlo := K5.out.size
          have K8 := Lib.hid (fun o => (K5.out.keep hb8).keep ((Below.refl w8.heap.size w8).alloc (Nat.le_refl _) o))
          obtain ⟨p, hpp⟩ : ∃ p, p = putAt x t zs := ⟨_, rfl⟩
          rw [← hpp] at D FP ho ⊢
          have HO := Lib.hid (fun o => OwnT.same p (SameIn.of_below ((Below.refl w8.heap.size w8).alloc (Nat.le_refl _) o) (Nat.le_refl _)) ho)
          have IP := Lib.hid (fun o => (HO.out o).isT (B := (w8.alloc o).heap.size) p (by simp) FP.out)
          clear ho hb8 t0 t1 t2 x0 x1 x2 hpp
          go_wp2_with fail
          obtain ⟨W, hW⟩ : ∃ W, w8.alloc (.cells #[.int .i64 p.k, .int .i64 p.i, .slice A3 p.ks.length c3] 24) = W := ⟨_, rfl⟩
          have K9 := Lib.hid (show Pk w W t A c x Ax cx A1 zs by rw [← hW]; exact K8.out _)
          have PB := Lib.hid (show Box3 W w8.heap.size (.int .i64 p.k) (.int .i64 p.i) (.slice A3 p.ks.length c3) by rw [← hW]; exact Box3.new _ _ _ _)
          have IP9 := Lib.hid (show IsT W W.heap.size p A3 c3 by rw [← hW]; exact IP.out _)
          have HO9 := Lib.hid (show OwnT W w5.heap.size w8.heap.size p A3 c3 by rw [← hW]; exact HO.out _)
          rw [hW]
          clear hW K8 IP HO
          refine (rright_any p A3 c3 _ IP9.out).mono ?_
          rintro e wa ⟨rfl, hba⟩
          have K10 := Lib.hid (K9.out.keep hba)
          have PB10 := Lib.hid (PB.out.keep hba PB.out.lt)
          have IP10 := Lib.hid (IP9.out.keep hba hba.size)
          have HO10 := Lib.hid (OwnT.same p (SameIn.of_below hba (by have := PB.out.lt; omega)) HO9.out)
          have hsa : w8.heap.size ≤ wa.heap.size := by have := PB10.out.lt; omega
          obtain ⟨p0, p1, p2⟩ := PB10.out.cells
          obtain ⟨ra, hra⟩ : ∃ ra, ra = rightN p := ⟨_, rfl⟩
          have RA := Lib.hid hra
          rw [← hra]
          clear hba hra K9 PB IP9 HO9
          by_cases hr0 : ra = 0
          · subst hr0
            have D2 := Lib.hid (show putR t x zs = (p, 0) by rw [D.out, if_neg (by rw [← RA.out]; simp)])
            obtain ⟨y0, y1, y2⟩ := K10.out.rb.cells
            have f0 := K10.out.rb.frozen 0
            have f1 := K10.out.rb.frozen 1
            have f2 := K10.out.rb.frozen 2
            have HOW := Lib.hid (HO10.out.widen hsa)
            go_wp2_with fail
            exact bodyPost_ret (v := .tuple #[.agg #[.int .i64 p.k, .int .i64 p.i, .slice A3 p.ks.length c3], .int .i64 0]) (by simp [results, Try.results13, go_sem, y0, y1, y2]) rfl (ans_tree D2.out K10.out.below HOW.out (by omega) (by omega))
          · have h1 : ((ra : Int) != 0) = true := by rw [bne_iff_ne]; omega
            have D2 := Lib.hid (show putR t x zs = (zeroT, ra) by rw [D.out, if_pos (by rw [← RA.out]; exact hr0), RA.out])
            go_wp2_with fail
            refine (rright_any p A3 c3 _ IP10.out).mono ?_
            rintro e wb ⟨rfl, hbb⟩
            rw [← RA.out]
            have K11 := Lib.hid (K10.out.keep hbb)
            obtain ⟨y0, y1, y2⟩ := K11.out.rb.cells
            have f0 := K11.out.rb.frozen 0
            have f1 := K11.out.rb.frozen 1
            have f2 := K11.out.rb.frozen 2
            clear hbb p0 p1 p2
            go_wp2_with fail
            exact bodyPost_ret (v := .tuple #[.agg #[.int .i64 0, .int .i64 0, .slice none 0 0], .int .i64 (ra : Int)]) (by simp [results, Try.results13, go_sem, y0, y1, y2]) rfl (ans_zero D2.out K11.out.below (by omega))
      · have D := Lib.hid (putR_term R1.out R2.out HP.out hs)
        obtain ⟨y0, y1, y2⟩ := K5.out.rb.cells
        have f0 := K5.out.rb.frozen 0
        have f1 := K5.out.rb.frozen 1
        have f2 := K5.out.rb.frozen 2
        obtain ⟨b1, hb1⟩ : ∃ b, b = termB q.k := ⟨_, rfl⟩
        obtain ⟨b2, hb2⟩ : ∃ b, b = termB x.k := ⟨_, rfl⟩
        rw [← hb1, ← hb2] at hs ⊢
        clear hb1 hb2
        obtain rfl : b1 = !b2 := by cases b1 <;> cases b2 <;> simp_all
        clear hs
        cases b2
        all_goals
          go_wp2_with fail
          exact bodyPost_ret (v := .tuple #[.agg #[.int .i64 0, .int .i64 0, .slice none 0 0], .int .i64 40]) (by simp [results, Try.results13, go_sem, y0, y1, y2]) rfl (ans_zero D.out K5.out.below (by omega))
  · have D := Lib.hid (putR_first (t := t) (x := x) (zs := zs) (r := r) (by have := RR.out; unfold firstN at this; exact this) h0)
    have h1 : ((r : Int) != 0) = true := by rw [bne_iff_ne]; omega
    clear t0 t1 t2
    go_wp2_with fail
    exact bodyPost_ret (v := .tuple #[.agg #[.int .i64 0, .int .i64 0, .slice none 0 0], .int .i64 (r : Int)]) (by simp [results, Try.results13, go_sem, y0, y1, y2]) rfl (ans_zero D.out K2.out.below (by omega))
end Go.Proofs.Ytdobpdedphkglaa
