/- made of the document's layer 7 (but schema 4). -/
import Derived.Test.YtgnfbhemkombaaaGreatH3
import Derived.Test.YtgnfbhemkombaaaGreatH7
import Derived.Test.YtgnfbhemkombaaaGreatU1
import Derived.Test.YtgnfbhemkombaaaGreatE6
namespace Go.Proofs.YtgnfbhemkombaaaGreat
open Go.RowKit
set_option linter.unusedVariables false
set_option linter.unusedSimpArgs false
/-- the box for what comes out, the box of the tree that is made -/
structure FM (w W : World) (ts : List (Tr × Option Addr × Nat)) : Prop where
  wb : BoxW W w.heap.size (.bool false) (.int .i64 0) (.int .i64 0) (.slice none 0 0) (.int .i64 0)
  rb : ∃ u v y, Box3 W (w.heap.size + 1) u v y
  fts : ∀ q ∈ ts, FrT (RX w) W q.1 q.2.1 q.2.2
  bel : Below w.heap.size w W
  size : w.heap.size + 2 ≤ W.heap.size
section
variable {w W W' : World} {ts : List (Tr × Option Addr × Nat)}
theorem FM.keep (h : FM w W ts) (hb : Below W.heap.size W W') : FM w W' ts :=
  ⟨h.wb.keep hb h.wb.lt, by obtain ⟨u, v, y, hr⟩ := h.rb; exact ⟨u, v, y, hr.keep hb hr.lt⟩, fun q hq => (h.fts q hq).keep hb, h.bel.trans (hb.mono h.bel.size), Nat.le_trans h.size hb.size⟩
theorem FM.drew (h : FM w W ts) : FM w W.drew ts := h.keep (Below.refl _ _).drew
theorem FM.hX (h : FM w W ts) : ∀ k, RX w k → k < W.heap.size := fun k hk => by have := h.size; unfold RX at hk; omega
theorem FM.start (w : World) : FM w ((w.alloc (.cells #[.bool false, .int .i64 0, .int .i64 0, .slice none 0 0, .int .i64 0] 57)).alloc (.cells #[.int .i64 0, .int .i64 0, .slice none 0 0] 24)) [] := by
  have h1 := alB w (.cells #[.bool false, .int .i64 0, .int .i64 0, .slice none 0 0, .int .i64 0] 57)
  have h2 := alB (w.alloc (.cells #[.bool false, .int .i64 0, .int .i64 0, .slice none 0 0, .int .i64 0] 57)) (.cells #[.int .i64 0, .int .i64 0, .slice none 0 0] 24)
  have e := Box3.new (w.alloc (.cells #[.bool false, .int .i64 0, .int .i64 0, .slice none 0 0, .int .i64 0] 57)) (.int .i64 0) (.int .i64 0) (.slice none 0 0)
  rw [World.size_alloc] at e
  exact ⟨(BoxW.new w _ _ _ _ _).keep h2 (by simp), ⟨_, _, _, e⟩, fun q hq => by simp at hq, h1.trans (h2.mono (by simp)), by simp⟩
theorem FM.more (h : FM w W ts) {t : Tr} {B : Option Addr} {cb : Nat} (ht : FrT (RX w) W t B cb) : FM w W ((t, B, cb) :: ts) :=
  ⟨h.wb, h.rb, fun q hq => by rcases List.mem_cons.1 hq with rfl | hq; exact ht; exact h.fts q hq, h.bel, h.size⟩
theorem FM.ft (h : FM w W ts) (t : Tr) (B : Option Addr) (cb : Nat) (hx : (t, B, cb) ∈ ts) : FrT (RX w) W t B cb := h.fts _ hx
theorem FM.set (h : FM w W ts) (u v y : Value) : FM w (((W.setCell ⟨w.heap.size + 1, 0, none⟩ u).setCell ⟨w.heap.size + 1, 1, none⟩ v).setCell ⟨w.heap.size + 1, 2, none⟩ y) ts := by
  have far : ∀ k, k ≠ w.heap.size + 1 → (((W.setCell ⟨w.heap.size + 1, 0, none⟩ u).setCell ⟨w.heap.size + 1, 1, none⟩ v).setCell ⟨w.heap.size + 1, 2, none⟩ y).heap[k]? = W.heap[k]? := fun k hk => by
    rw [heap_setCell_other _ _ _ _ hk, heap_setCell_other _ _ _ _ hk, heap_setCell_other _ _ _ _ hk]
  refine ⟨(far _ (by omega)).trans h.wb, ?_, fun q hq => (h.fts q hq).set3 rfl _ _ _, below_set3 h.bel _ _ _ (by omega), by have := h.size; simpa using this⟩
  obtain ⟨u', v', y', hr⟩ := h.rb
  exact ⟨_, _, _, hr.setall u v y⟩
theorem FM.res (h : FM w W ts) (u v y : Value) : Box3 (((W.setCell ⟨w.heap.size + 1, 0, none⟩ u).setCell ⟨w.heap.size + 1, 1, none⟩ v).setCell ⟨w.heap.size + 1, 2, none⟩ y) (w.heap.size + 1) u v y := by
  obtain ⟨u', v', y', hr⟩ := h.rb
  exact hr.setall u v y
theorem FM.froz (h : FM w W ts) (o : Nat) : W.frozen? ⟨w.heap.size + 1, o, none⟩ = false := by
  obtain ⟨u', v', y', hr⟩ := h.rb
  exact hr.frozen o
end
/-- what made answers -/
def MadeP (w : World) (t : Tr) (e : Ending) (w' : World) : Prop := ∃ A c, e = .returned (.agg #[.bool true, .int .i64 t.k, .int .i64 t.i, .slice A t.ks.length c, .int .i64 0]) ∧ FrT (fun k => k < w.heap.size) w' t A c ∧ Below w.heap.size w w'
theorem BoxW.set5 {w : World} {b : Nat} {x y z u v : Value} (h : BoxW w b x y z u v) (x' y' z' u' v' : Value) : BoxW (((((w.setCell ⟨b, 0, none⟩ x').setCell ⟨b, 1, none⟩ y').setCell ⟨b, 2, none⟩ z').setCell ⟨b, 3, none⟩ u').setCell ⟨b, 4, none⟩ v') b x' y' z' u' v' := by
  unfold BoxW at *
  unfold World.setCell
  simp [Array.getElem?_modify, h]
theorem own_frT {X : Nat → Prop} {W : World} {lo hi : Nat} {t : Tr} {A : Option Addr} {c : Nat} (ho : OwnT W lo hi t A c) (hh : hi ≤ W.heap.size) (hX : ∀ k, X k → k < lo) (hf : t.fit) : FrT X W t A c :=
  fun W' h1 h2 => (OwnT.same t (fun b b1 b2 => h1 b (by omega) (fun hx => by have := hX b hx; omega)) ho).isT t (by omega) hf
theorem made_mem {w W : World} {ts : List (Tr × Option Addr × Nat)} (h : FM w W ts) {t : Tr} {A : Option Addr} {c lo : Nat} (ho : OwnT W lo W.heap.size t A c) (hlo : w.heap.size < lo) (hf : t.fit) (x y z u v : Value) :
    FrT (fun k => k < w.heap.size) (((((W.setCell ⟨w.heap.size, 0, none⟩ x).setCell ⟨w.heap.size, 1, none⟩ y).setCell ⟨w.heap.size, 2, none⟩ z).setCell ⟨w.heap.size, 3, none⟩ u).setCell ⟨w.heap.size, 4, none⟩ v) t A c ∧
    Below w.heap.size w (((((W.setCell ⟨w.heap.size, 0, none⟩ x).setCell ⟨w.heap.size, 1, none⟩ y).setCell ⟨w.heap.size, 2, none⟩ z).setCell ⟨w.heap.size, 3, none⟩ u).setCell ⟨w.heap.size, 4, none⟩ v) :=
  ⟨own_frT (OwnT.same t (fun k k1 k2 => setW_other W w.heap.size k _ _ _ _ _ (by omega)) ho) (by simp) (fun k hk => by omega) hf, below_setW h.bel (Nat.le_refl _) _ _ _ _ _⟩
set_option maxHeartbeats 8000000 in
set_option maxRecDepth 100000 in
theorem made1_any (a b : Tr) (A : Option Addr) (c : Nat) (x : Int) (w : World) (fa : a.fit) (fb : b.fit) (hl : IsT w w.heap.size (.node 0 0 [a, b]) A c) :
    Calls Tryz.prog 25 #[.int .i64 1, .slice A 2 c, .int .i64 x] w (MadeP w (impT a (impT b a))) := by
  obtain ⟨g, o, Aa, ca, Ab, cb, rfl, hg, ⟨ha, hb⟩, ⟨ta, tb⟩, hcn⟩ := kids2 hl
  have F1 := Lib.hid (FM.start w).drew
  have FT := Lib.hid (show (impT a (impT b a)).fit from (fit_node2 fa (fit_node2 fb fa)))
  have Ha := Lib.hid ha
  have Ta := Lib.hid ta
  have Hb := Lib.hid hb
  have Tb := Lib.hid tb
  have E := Lib.hid ((F1.out.more (FrT.ofB Ta.out (fun k hk => by unfold RX at hk; omega) F1.out.bel)).more (FrT.ofB Tb.out (fun k hk => by unfold RX at hk; omega) F1.out.bel))
  have f0 := E.out.froz 0
  have f1 := E.out.froz 1
  have f2 := E.out.froz 2
  clear hl F1 ha hb ta tb fa fb
  go_enter Tryz.func25, Tryz.ntmps25
  go_wp2_with fail
  go_region_held3 (fun w' => (w'.cell? ⟨g, o, none⟩ = some (.int .i64 a.k) ∧ w'.cell? ⟨g, o + 1, none⟩ = some (.int .i64 a.i) ∧ w'.cell? ⟨g, o + 2, none⟩ = some (.slice Aa a.ks.length ca)) ∧ (w'.cell? ⟨g, o + 3, none⟩ = some (.int .i64 b.k) ∧ w'.cell? ⟨g, o + 3 + 1, none⟩ = some (.int .i64 b.i) ∧ w'.cell? ⟨g, o + 3 + 2, none⟩ = some (.slice Ab b.ks.length cb)))
    (first | exact ⟨Ha.out.keep E.out.bel hg, Hb.out.keep E.out.bel hg⟩ | exact ⟨Ha.out.keep (E.out.set _ _ _).bel hg, Hb.out.keep (E.out.set _ _ _).bel hg⟩)
    (first
        | (go_at_call 56; refine (rimp_any (RX w) b a Ab Aa cb ca _ E.out.hX (E.out.ft b Ab cb (by simp)) (E.out.ft a Aa ca (by simp))).mono ?_; rintro e5 w5 ⟨R0, r0, rfl, h5, hb5⟩; replace E := Lib.hid ((E.out.keep hb5).more h5); have f0 := E.out.froz 0; have f1 := E.out.froz 1; have f2 := E.out.froz 2; obtain ⟨u5, v5, y5, hr5⟩ := E.out.rb; obtain ⟨s0, s1, s2⟩ := hr5.cells; clear hb5 h5 hr5)
        | (go_at_call 56; refine (rimp_any (RX w) a (impT b a) Aa R0 ca r0 _ E.out.hX (E.out.ft a Aa ca (by simp)) (E.out.ft (impT b a) R0 r0 (by simp))).mono ?_; rintro e5 w5 ⟨R1, r1, rfl, h5, hb5⟩; replace E := Lib.hid ((E.out.keep hb5).more h5); have f0 := E.out.froz 0; have f1 := E.out.froz 1; have f2 := E.out.froz 2; obtain ⟨u5, v5, y5, hr5⟩ := E.out.rb; obtain ⟨s0, s1, s2⟩ := hr5.cells; clear hb5 h5 hr5))
  all_goals
    have E2 := Lib.hid (E.out.set (.int .i64 (impT a (impT b a)).k) (.int .i64 (impT a (impT b a)).i) (.slice R1 (impT a (impT b a)).ks.length r1))
    have RS := Lib.hid (E.out.res (.int .i64 (impT a (impT b a)).k) (.int .i64 (impT a (impT b a)).i) (.slice R1 (impT a (impT b a)).ks.length r1))
    obtain ⟨q0, q1, q2⟩ := RS.out.cells
    go_wp2_with fail
    refine (copy_any (impT a (impT b a)).sz (impT a (impT b a)) R1 r1 _ (Nat.le_refl _) (by exact (E2.out.ft (impT a (impT b a)) R1 r1 (by simp)).isT)).mono ?_
    rintro e9 w9 ⟨A9, c9, rfl, ho9, hb9⟩
    have E9 := Lib.hid (E2.out.keep hb9)
    have O9 := Lib.hid ho9
    have z9 := E2.out.size
    have wf0 := E9.out.wb.frozen 0
    have wf1 := E9.out.wb.frozen 1
    have wf2 := E9.out.wb.frozen 2
    have wf3 := E9.out.wb.frozen 3
    have wf4 := E9.out.wb.frozen 4
    obtain ⟨v0, v1, v2, v3, v4⟩ := E9.out.wb.cells
    clear hb9 ho9
    go_wp2_with fail
    obtain ⟨p0, p1, p2, p3, p4⟩ := (E9.out.wb.set5 (.bool true) (.int .i64 (impT a (impT b a)).k) (.int .i64 (impT a (impT b a)).i) (.slice A9 (impT a (impT b a)).ks.length c9) (.int .i64 0)).cells
    obtain ⟨mi, mb⟩ := made_mem E9.out O9.out (by omega) FT.out (.bool true) (.int .i64 (impT a (impT b a)).k) (.int .i64 (impT a (impT b a)).i) (.slice A9 (impT a (impT b a)).ks.length c9) (.int .i64 0)
    exact bodyPost_ret (v := .agg #[.bool true, .int .i64 (impT a (impT b a)).k, .int .i64 (impT a (impT b a)).i, .slice A9 (impT a (impT b a)).ks.length c9, .int .i64 0]) (by simp [results, Tryz.results25, go_sem, p0, p1, p2, p3, p4]) rfl ⟨A9, c9, rfl, mi, mb⟩
set_option maxHeartbeats 8000000 in
set_option maxRecDepth 100000 in
theorem made3_any (a b : Tr) (A : Option Addr) (c : Nat) (x : Int) (w : World) (fa : a.fit) (fb : b.fit) (hl : IsT w w.heap.size (.node 0 0 [a, b]) A c) :
    Calls Tryz.prog 25 #[.int .i64 3, .slice A 2 c, .int .i64 x] w (MadeP w (impT (impT (notT a) (notT b)) (impT b a))) := by
  obtain ⟨g, o, Aa, ca, Ab, cb, rfl, hg, ⟨ha, hb⟩, ⟨ta, tb⟩, hcn⟩ := kids2 hl
  have F1 := Lib.hid (FM.start w).drew
  have FT := Lib.hid (show (impT (impT (notT a) (notT b)) (impT b a)).fit from (fit_node2 (fit_node2 (fit_node1 fa) (fit_node1 fb)) (fit_node2 fb fa)))
  have Ha := Lib.hid ha
  have Ta := Lib.hid ta
  have Hb := Lib.hid hb
  have Tb := Lib.hid tb
  have E := Lib.hid ((F1.out.more (FrT.ofB Ta.out (fun k hk => by unfold RX at hk; omega) F1.out.bel)).more (FrT.ofB Tb.out (fun k hk => by unfold RX at hk; omega) F1.out.bel))
  have f0 := E.out.froz 0
  have f1 := E.out.froz 1
  have f2 := E.out.froz 2
  clear hl F1 ha hb ta tb fa fb
  go_enter Tryz.func25, Tryz.ntmps25
  go_wp2_with fail
  go_region_held3 (fun w' => (w'.cell? ⟨g, o, none⟩ = some (.int .i64 a.k) ∧ w'.cell? ⟨g, o + 1, none⟩ = some (.int .i64 a.i) ∧ w'.cell? ⟨g, o + 2, none⟩ = some (.slice Aa a.ks.length ca)) ∧ (w'.cell? ⟨g, o + 3, none⟩ = some (.int .i64 b.k) ∧ w'.cell? ⟨g, o + 3 + 1, none⟩ = some (.int .i64 b.i) ∧ w'.cell? ⟨g, o + 3 + 2, none⟩ = some (.slice Ab b.ks.length cb)))
    (first | exact ⟨Ha.out.keep E.out.bel hg, Hb.out.keep E.out.bel hg⟩ | exact ⟨Ha.out.keep (E.out.set _ _ _).bel hg, Hb.out.keep (E.out.set _ _ _).bel hg⟩)
    (first
        | (go_at_call 57; refine (rnot_any (RX w) a Aa ca _ E.out.hX (E.out.ft a Aa ca (by simp))).mono ?_; rintro e5 w5 ⟨R0, r0, rfl, h5, hb5⟩; replace E := Lib.hid ((E.out.keep hb5).more h5); have f0 := E.out.froz 0; have f1 := E.out.froz 1; have f2 := E.out.froz 2; obtain ⟨u5, v5, y5, hr5⟩ := E.out.rb; obtain ⟨s0, s1, s2⟩ := hr5.cells; clear hb5 h5 hr5)
        | (go_at_call 57; refine (rnot_any (RX w) b Ab cb _ E.out.hX (E.out.ft b Ab cb (by simp))).mono ?_; rintro e5 w5 ⟨R1, r1, rfl, h5, hb5⟩; replace E := Lib.hid ((E.out.keep hb5).more h5); have f0 := E.out.froz 0; have f1 := E.out.froz 1; have f2 := E.out.froz 2; obtain ⟨u5, v5, y5, hr5⟩ := E.out.rb; obtain ⟨s0, s1, s2⟩ := hr5.cells; clear hb5 h5 hr5)
        | (go_at_call 56; refine (rimp_any (RX w) (notT a) (notT b) R0 R1 r0 r1 _ E.out.hX (E.out.ft (notT a) R0 r0 (by simp)) (E.out.ft (notT b) R1 r1 (by simp))).mono ?_; rintro e5 w5 ⟨R2, r2, rfl, h5, hb5⟩; replace E := Lib.hid ((E.out.keep hb5).more h5); have f0 := E.out.froz 0; have f1 := E.out.froz 1; have f2 := E.out.froz 2; obtain ⟨u5, v5, y5, hr5⟩ := E.out.rb; obtain ⟨s0, s1, s2⟩ := hr5.cells; clear hb5 h5 hr5)
        | (go_at_call 56; refine (rimp_any (RX w) b a Ab Aa cb ca _ E.out.hX (E.out.ft b Ab cb (by simp)) (E.out.ft a Aa ca (by simp))).mono ?_; rintro e5 w5 ⟨R3, r3, rfl, h5, hb5⟩; replace E := Lib.hid ((E.out.keep hb5).more h5); have f0 := E.out.froz 0; have f1 := E.out.froz 1; have f2 := E.out.froz 2; obtain ⟨u5, v5, y5, hr5⟩ := E.out.rb; obtain ⟨s0, s1, s2⟩ := hr5.cells; clear hb5 h5 hr5)
        | (go_at_call 56; refine (rimp_any (RX w) (impT (notT a) (notT b)) (impT b a) R2 R3 r2 r3 _ E.out.hX (E.out.ft (impT (notT a) (notT b)) R2 r2 (by simp)) (E.out.ft (impT b a) R3 r3 (by simp))).mono ?_; rintro e5 w5 ⟨R4, r4, rfl, h5, hb5⟩; replace E := Lib.hid ((E.out.keep hb5).more h5); have f0 := E.out.froz 0; have f1 := E.out.froz 1; have f2 := E.out.froz 2; obtain ⟨u5, v5, y5, hr5⟩ := E.out.rb; obtain ⟨s0, s1, s2⟩ := hr5.cells; clear hb5 h5 hr5))
  all_goals
    have E2 := Lib.hid (E.out.set (.int .i64 (impT (impT (notT a) (notT b)) (impT b a)).k) (.int .i64 (impT (impT (notT a) (notT b)) (impT b a)).i) (.slice R4 (impT (impT (notT a) (notT b)) (impT b a)).ks.length r4))
    have RS := Lib.hid (E.out.res (.int .i64 (impT (impT (notT a) (notT b)) (impT b a)).k) (.int .i64 (impT (impT (notT a) (notT b)) (impT b a)).i) (.slice R4 (impT (impT (notT a) (notT b)) (impT b a)).ks.length r4))
    obtain ⟨q0, q1, q2⟩ := RS.out.cells
    go_wp2_with fail
    refine (copy_any (impT (impT (notT a) (notT b)) (impT b a)).sz (impT (impT (notT a) (notT b)) (impT b a)) R4 r4 _ (Nat.le_refl _) (by exact (E2.out.ft (impT (impT (notT a) (notT b)) (impT b a)) R4 r4 (by simp)).isT)).mono ?_
    rintro e9 w9 ⟨A9, c9, rfl, ho9, hb9⟩
    have E9 := Lib.hid (E2.out.keep hb9)
    have O9 := Lib.hid ho9
    have z9 := E2.out.size
    have wf0 := E9.out.wb.frozen 0
    have wf1 := E9.out.wb.frozen 1
    have wf2 := E9.out.wb.frozen 2
    have wf3 := E9.out.wb.frozen 3
    have wf4 := E9.out.wb.frozen 4
    obtain ⟨v0, v1, v2, v3, v4⟩ := E9.out.wb.cells
    clear hb9 ho9
    go_wp2_with fail
    obtain ⟨p0, p1, p2, p3, p4⟩ := (E9.out.wb.set5 (.bool true) (.int .i64 (impT (impT (notT a) (notT b)) (impT b a)).k) (.int .i64 (impT (impT (notT a) (notT b)) (impT b a)).i) (.slice A9 (impT (impT (notT a) (notT b)) (impT b a)).ks.length c9) (.int .i64 0)).cells
    obtain ⟨mi, mb⟩ := made_mem E9.out O9.out (by omega) FT.out (.bool true) (.int .i64 (impT (impT (notT a) (notT b)) (impT b a)).k) (.int .i64 (impT (impT (notT a) (notT b)) (impT b a)).i) (.slice A9 (impT (impT (notT a) (notT b)) (impT b a)).ks.length c9) (.int .i64 0)
    exact bodyPost_ret (v := .agg #[.bool true, .int .i64 (impT (impT (notT a) (notT b)) (impT b a)).k, .int .i64 (impT (impT (notT a) (notT b)) (impT b a)).i, .slice A9 (impT (impT (notT a) (notT b)) (impT b a)).ks.length c9, .int .i64 0]) (by simp [results, Tryz.results25, go_sem, p0, p1, p2, p3, p4]) rfl ⟨A9, c9, rfl, mi, mb⟩
set_option maxHeartbeats 8000000 in
set_option maxRecDepth 100000 in
theorem made5_any (a b : Tr) (A : Option Addr) (c : Nat) (x : Int) (w : World) (fa : a.fit) (fb : b.fit) (hl : IsT w w.heap.size (.node 0 0 [a, b]) A c) :
    Calls Tryz.prog 25 #[.int .i64 5, .slice A 2 c, .int .i64 x] w (MadeP w (impT (allT x (impT a b)) (impT a (allT x b)))) := by
  obtain ⟨g, o, Aa, ca, Ab, cb, rfl, hg, ⟨ha, hb⟩, ⟨ta, tb⟩, hcn⟩ := kids2 hl
  have F1 := Lib.hid (FM.start w).drew
  have FT := Lib.hid (show (impT (allT x (impT a b)) (impT a (allT x b))).fit from (fit_node2 (fit_node1 (fit_node2 fa fb)) (fit_node2 fa (fit_node1 fb))))
  have Ha := Lib.hid ha
  have Ta := Lib.hid ta
  have Hb := Lib.hid hb
  have Tb := Lib.hid tb
  have E := Lib.hid ((F1.out.more (FrT.ofB Ta.out (fun k hk => by unfold RX at hk; omega) F1.out.bel)).more (FrT.ofB Tb.out (fun k hk => by unfold RX at hk; omega) F1.out.bel))
  have f0 := E.out.froz 0
  have f1 := E.out.froz 1
  have f2 := E.out.froz 2
  clear hl F1 ha hb ta tb fa fb
  go_enter Tryz.func25, Tryz.ntmps25
  go_wp2_with fail
  go_region_held3 (fun w' => (w'.cell? ⟨g, o, none⟩ = some (.int .i64 a.k) ∧ w'.cell? ⟨g, o + 1, none⟩ = some (.int .i64 a.i) ∧ w'.cell? ⟨g, o + 2, none⟩ = some (.slice Aa a.ks.length ca)) ∧ (w'.cell? ⟨g, o + 3, none⟩ = some (.int .i64 b.k) ∧ w'.cell? ⟨g, o + 3 + 1, none⟩ = some (.int .i64 b.i) ∧ w'.cell? ⟨g, o + 3 + 2, none⟩ = some (.slice Ab b.ks.length cb)))
    (first | exact ⟨Ha.out.keep E.out.bel hg, Hb.out.keep E.out.bel hg⟩ | exact ⟨Ha.out.keep (E.out.set _ _ _).bel hg, Hb.out.keep (E.out.set _ _ _).bel hg⟩)
    (first
        | (go_at_call 56; refine (rimp_any (RX w) a b Aa Ab ca cb _ E.out.hX (E.out.ft a Aa ca (by simp)) (E.out.ft b Ab cb (by simp))).mono ?_; rintro e5 w5 ⟨R0, r0, rfl, h5, hb5⟩; replace E := Lib.hid ((E.out.keep hb5).more h5); have f0 := E.out.froz 0; have f1 := E.out.froz 1; have f2 := E.out.froz 2; obtain ⟨u5, v5, y5, hr5⟩ := E.out.rb; obtain ⟨s0, s1, s2⟩ := hr5.cells; clear hb5 h5 hr5)
        | (go_at_call 59; refine (rall_any (RX w) x (impT a b) R0 r0 _ E.out.hX (E.out.ft (impT a b) R0 r0 (by simp))).mono ?_; rintro e5 w5 ⟨R1, r1, rfl, h5, hb5⟩; replace E := Lib.hid ((E.out.keep hb5).more h5); have f0 := E.out.froz 0; have f1 := E.out.froz 1; have f2 := E.out.froz 2; obtain ⟨u5, v5, y5, hr5⟩ := E.out.rb; obtain ⟨s0, s1, s2⟩ := hr5.cells; clear hb5 h5 hr5)
        | (go_at_call 59; refine (rall_any (RX w) x b Ab cb _ E.out.hX (E.out.ft b Ab cb (by simp))).mono ?_; rintro e5 w5 ⟨R2, r2, rfl, h5, hb5⟩; replace E := Lib.hid ((E.out.keep hb5).more h5); have f0 := E.out.froz 0; have f1 := E.out.froz 1; have f2 := E.out.froz 2; obtain ⟨u5, v5, y5, hr5⟩ := E.out.rb; obtain ⟨s0, s1, s2⟩ := hr5.cells; clear hb5 h5 hr5)
        | (go_at_call 56; refine (rimp_any (RX w) a (allT x b) Aa R2 ca r2 _ E.out.hX (E.out.ft a Aa ca (by simp)) (E.out.ft (allT x b) R2 r2 (by simp))).mono ?_; rintro e5 w5 ⟨R3, r3, rfl, h5, hb5⟩; replace E := Lib.hid ((E.out.keep hb5).more h5); have f0 := E.out.froz 0; have f1 := E.out.froz 1; have f2 := E.out.froz 2; obtain ⟨u5, v5, y5, hr5⟩ := E.out.rb; obtain ⟨s0, s1, s2⟩ := hr5.cells; clear hb5 h5 hr5)
        | (go_at_call 56; refine (rimp_any (RX w) (allT x (impT a b)) (impT a (allT x b)) R1 R3 r1 r3 _ E.out.hX (E.out.ft (allT x (impT a b)) R1 r1 (by simp)) (E.out.ft (impT a (allT x b)) R3 r3 (by simp))).mono ?_; rintro e5 w5 ⟨R4, r4, rfl, h5, hb5⟩; replace E := Lib.hid ((E.out.keep hb5).more h5); have f0 := E.out.froz 0; have f1 := E.out.froz 1; have f2 := E.out.froz 2; obtain ⟨u5, v5, y5, hr5⟩ := E.out.rb; obtain ⟨s0, s1, s2⟩ := hr5.cells; clear hb5 h5 hr5))
  all_goals
    have E2 := Lib.hid (E.out.set (.int .i64 (impT (allT x (impT a b)) (impT a (allT x b))).k) (.int .i64 (impT (allT x (impT a b)) (impT a (allT x b))).i) (.slice R4 (impT (allT x (impT a b)) (impT a (allT x b))).ks.length r4))
    have RS := Lib.hid (E.out.res (.int .i64 (impT (allT x (impT a b)) (impT a (allT x b))).k) (.int .i64 (impT (allT x (impT a b)) (impT a (allT x b))).i) (.slice R4 (impT (allT x (impT a b)) (impT a (allT x b))).ks.length r4))
    obtain ⟨q0, q1, q2⟩ := RS.out.cells
    go_wp2_with fail
    refine (copy_any (impT (allT x (impT a b)) (impT a (allT x b))).sz (impT (allT x (impT a b)) (impT a (allT x b))) R4 r4 _ (Nat.le_refl _) (by exact (E2.out.ft (impT (allT x (impT a b)) (impT a (allT x b))) R4 r4 (by simp)).isT)).mono ?_
    rintro e9 w9 ⟨A9, c9, rfl, ho9, hb9⟩
    have E9 := Lib.hid (E2.out.keep hb9)
    have O9 := Lib.hid ho9
    have z9 := E2.out.size
    have wf0 := E9.out.wb.frozen 0
    have wf1 := E9.out.wb.frozen 1
    have wf2 := E9.out.wb.frozen 2
    have wf3 := E9.out.wb.frozen 3
    have wf4 := E9.out.wb.frozen 4
    obtain ⟨v0, v1, v2, v3, v4⟩ := E9.out.wb.cells
    clear hb9 ho9
    go_wp2_with fail
    obtain ⟨p0, p1, p2, p3, p4⟩ := (E9.out.wb.set5 (.bool true) (.int .i64 (impT (allT x (impT a b)) (impT a (allT x b))).k) (.int .i64 (impT (allT x (impT a b)) (impT a (allT x b))).i) (.slice A9 (impT (allT x (impT a b)) (impT a (allT x b))).ks.length c9) (.int .i64 0)).cells
    obtain ⟨mi, mb⟩ := made_mem E9.out O9.out (by omega) FT.out (.bool true) (.int .i64 (impT (allT x (impT a b)) (impT a (allT x b))).k) (.int .i64 (impT (allT x (impT a b)) (impT a (allT x b))).i) (.slice A9 (impT (allT x (impT a b)) (impT a (allT x b))).ks.length c9) (.int .i64 0)
    exact bodyPost_ret (v := .agg #[.bool true, .int .i64 (impT (allT x (impT a b)) (impT a (allT x b))).k, .int .i64 (impT (allT x (impT a b)) (impT a (allT x b))).i, .slice A9 (impT (allT x (impT a b)) (impT a (allT x b))).ks.length c9, .int .i64 0]) (by simp [results, Tryz.results25, go_sem, p0, p1, p2, p3, p4]) rfl ⟨A9, c9, rfl, mi, mb⟩
set_option maxHeartbeats 8000000 in
set_option maxRecDepth 100000 in
theorem made6_any (a : Tr) (A : Option Addr) (c : Nat) (x : Int) (w : World) (fa : a.fit) (hl : IsT w w.heap.size (.node 0 0 [a]) A c) :
    Calls Tryz.prog 25 #[.int .i64 6, .slice A 1 c, .int .i64 x] w (MadeP w (eqT a a)) := by
  obtain ⟨g, o, Aa, ca, rfl, hg, ha, ta, hcn⟩ := kids1 hl
  have F1 := Lib.hid (FM.start w).drew
  have FT := Lib.hid (show (eqT a a).fit from (fit_node2 fa fa))
  have Ha := Lib.hid ha
  have Ta := Lib.hid ta
  have E := Lib.hid (F1.out.more (FrT.ofB Ta.out (fun k hk => by unfold RX at hk; omega) F1.out.bel))
  have f0 := E.out.froz 0
  have f1 := E.out.froz 1
  have f2 := E.out.froz 2
  clear hl F1 ha ta fa
  go_enter Tryz.func25, Tryz.ntmps25
  go_wp2_with fail
  go_region_held3 (fun w' => (w'.cell? ⟨g, o, none⟩ = some (.int .i64 a.k) ∧ w'.cell? ⟨g, o + 1, none⟩ = some (.int .i64 a.i) ∧ w'.cell? ⟨g, o + 2, none⟩ = some (.slice Aa a.ks.length ca)))
    (first | exact Ha.out.keep E.out.bel hg | exact Ha.out.keep (E.out.set _ _ _).bel hg)
    (first
        | (go_at_call 60; refine (req_any (RX w) a a Aa Aa ca ca _ E.out.hX (E.out.ft a Aa ca (by simp)) (E.out.ft a Aa ca (by simp))).mono ?_; rintro e5 w5 ⟨R0, r0, rfl, h5, hb5⟩; replace E := Lib.hid ((E.out.keep hb5).more h5); have f0 := E.out.froz 0; have f1 := E.out.froz 1; have f2 := E.out.froz 2; obtain ⟨u5, v5, y5, hr5⟩ := E.out.rb; obtain ⟨s0, s1, s2⟩ := hr5.cells; clear hb5 h5 hr5))
  all_goals
    have E2 := Lib.hid (E.out.set (.int .i64 (eqT a a).k) (.int .i64 (eqT a a).i) (.slice R0 (eqT a a).ks.length r0))
    have RS := Lib.hid (E.out.res (.int .i64 (eqT a a).k) (.int .i64 (eqT a a).i) (.slice R0 (eqT a a).ks.length r0))
    obtain ⟨q0, q1, q2⟩ := RS.out.cells
    go_wp2_with fail
    refine (copy_any (eqT a a).sz (eqT a a) R0 r0 _ (Nat.le_refl _) (by exact (E2.out.ft (eqT a a) R0 r0 (by simp)).isT)).mono ?_
    rintro e9 w9 ⟨A9, c9, rfl, ho9, hb9⟩
    have E9 := Lib.hid (E2.out.keep hb9)
    have O9 := Lib.hid ho9
    have z9 := E2.out.size
    have wf0 := E9.out.wb.frozen 0
    have wf1 := E9.out.wb.frozen 1
    have wf2 := E9.out.wb.frozen 2
    have wf3 := E9.out.wb.frozen 3
    have wf4 := E9.out.wb.frozen 4
    obtain ⟨v0, v1, v2, v3, v4⟩ := E9.out.wb.cells
    clear hb9 ho9
    go_wp2_with fail
    obtain ⟨p0, p1, p2, p3, p4⟩ := (E9.out.wb.set5 (.bool true) (.int .i64 (eqT a a).k) (.int .i64 (eqT a a).i) (.slice A9 (eqT a a).ks.length c9) (.int .i64 0)).cells
    obtain ⟨mi, mb⟩ := made_mem E9.out O9.out (by omega) FT.out (.bool true) (.int .i64 (eqT a a).k) (.int .i64 (eqT a a).i) (.slice A9 (eqT a a).ks.length c9) (.int .i64 0)
    exact bodyPost_ret (v := .agg #[.bool true, .int .i64 (eqT a a).k, .int .i64 (eqT a a).i, .slice A9 (eqT a a).ks.length c9, .int .i64 0]) (by simp [results, Tryz.results25, go_sem, p0, p1, p2, p3, p4]) rfl ⟨A9, c9, rfl, mi, mb⟩
set_option maxHeartbeats 8000000 in
set_option maxRecDepth 100000 in
theorem made7_any (a b d e : Tr) (A : Option Addr) (c : Nat) (x : Int) (w : World) (fa : a.fit) (fb : b.fit) (fd : d.fit) (fe : e.fit) (hl : IsT w w.heap.size (.node 0 0 [a, b, d, e]) A c) :
    Calls Tryz.prog 25 #[.int .i64 7, .slice A 4 c, .int .i64 x] w (MadeP w (impT (eqT a b) (impT d e))) := by
  obtain ⟨g, o, Aa, ca, Ab, cb, Ad, cd, Ae, ce, rfl, hg, ⟨ha, hb, hd, he⟩, ⟨ta, tb, td, te⟩, hcn⟩ := kids4 hl
  have F1 := Lib.hid (FM.start w).drew
  have FT := Lib.hid (show (impT (eqT a b) (impT d e)).fit from (fit_node2 (fit_node2 fa fb) (fit_node2 fd fe)))
  have Ha := Lib.hid ha
  have Ta := Lib.hid ta
  have Hb := Lib.hid hb
  have Tb := Lib.hid tb
  have Hd := Lib.hid hd
  have Td := Lib.hid td
  have He := Lib.hid he
  have Te := Lib.hid te
  have E := Lib.hid ((((F1.out.more (FrT.ofB Ta.out (fun k hk => by unfold RX at hk; omega) F1.out.bel)).more (FrT.ofB Tb.out (fun k hk => by unfold RX at hk; omega) F1.out.bel)).more (FrT.ofB Td.out (fun k hk => by unfold RX at hk; omega) F1.out.bel)).more (FrT.ofB Te.out (fun k hk => by unfold RX at hk; omega) F1.out.bel))
  have f0 := E.out.froz 0
  have f1 := E.out.froz 1
  have f2 := E.out.froz 2
  clear hl F1 ha hb hd he ta tb td te fa fb fd fe
  go_enter Tryz.func25, Tryz.ntmps25
  go_wp2_with fail
  go_region_held3 (fun w' => (w'.cell? ⟨g, o, none⟩ = some (.int .i64 a.k) ∧ w'.cell? ⟨g, o + 1, none⟩ = some (.int .i64 a.i) ∧ w'.cell? ⟨g, o + 2, none⟩ = some (.slice Aa a.ks.length ca)) ∧ ((w'.cell? ⟨g, o + 3, none⟩ = some (.int .i64 b.k) ∧ w'.cell? ⟨g, o + 3 + 1, none⟩ = some (.int .i64 b.i) ∧ w'.cell? ⟨g, o + 3 + 2, none⟩ = some (.slice Ab b.ks.length cb)) ∧ ((w'.cell? ⟨g, o + 6, none⟩ = some (.int .i64 d.k) ∧ w'.cell? ⟨g, o + 6 + 1, none⟩ = some (.int .i64 d.i) ∧ w'.cell? ⟨g, o + 6 + 2, none⟩ = some (.slice Ad d.ks.length cd)) ∧ (w'.cell? ⟨g, o + 9, none⟩ = some (.int .i64 e.k) ∧ w'.cell? ⟨g, o + 9 + 1, none⟩ = some (.int .i64 e.i) ∧ w'.cell? ⟨g, o + 9 + 2, none⟩ = some (.slice Ae e.ks.length ce)))))
    (first | exact ⟨Ha.out.keep E.out.bel hg, Hb.out.keep E.out.bel hg, Hd.out.keep E.out.bel hg, He.out.keep E.out.bel hg⟩ | exact ⟨Ha.out.keep (E.out.set _ _ _).bel hg, Hb.out.keep (E.out.set _ _ _).bel hg, Hd.out.keep (E.out.set _ _ _).bel hg, He.out.keep (E.out.set _ _ _).bel hg⟩)
    (first
        | (go_at_call 60; refine (req_any (RX w) a b Aa Ab ca cb _ E.out.hX (E.out.ft a Aa ca (by simp)) (E.out.ft b Ab cb (by simp))).mono ?_; rintro e5 w5 ⟨R0, r0, rfl, h5, hb5⟩; replace E := Lib.hid ((E.out.keep hb5).more h5); have f0 := E.out.froz 0; have f1 := E.out.froz 1; have f2 := E.out.froz 2; obtain ⟨u5, v5, y5, hr5⟩ := E.out.rb; obtain ⟨s0, s1, s2⟩ := hr5.cells; clear hb5 h5 hr5)
        | (go_at_call 56; refine (rimp_any (RX w) d e Ad Ae cd ce _ E.out.hX (E.out.ft d Ad cd (by simp)) (E.out.ft e Ae ce (by simp))).mono ?_; rintro e5 w5 ⟨R1, r1, rfl, h5, hb5⟩; replace E := Lib.hid ((E.out.keep hb5).more h5); have f0 := E.out.froz 0; have f1 := E.out.froz 1; have f2 := E.out.froz 2; obtain ⟨u5, v5, y5, hr5⟩ := E.out.rb; obtain ⟨s0, s1, s2⟩ := hr5.cells; clear hb5 h5 hr5)
        | (go_at_call 56; refine (rimp_any (RX w) (eqT a b) (impT d e) R0 R1 r0 r1 _ E.out.hX (E.out.ft (eqT a b) R0 r0 (by simp)) (E.out.ft (impT d e) R1 r1 (by simp))).mono ?_; rintro e5 w5 ⟨R2, r2, rfl, h5, hb5⟩; replace E := Lib.hid ((E.out.keep hb5).more h5); have f0 := E.out.froz 0; have f1 := E.out.froz 1; have f2 := E.out.froz 2; obtain ⟨u5, v5, y5, hr5⟩ := E.out.rb; obtain ⟨s0, s1, s2⟩ := hr5.cells; clear hb5 h5 hr5))
  all_goals
    have E2 := Lib.hid (E.out.set (.int .i64 (impT (eqT a b) (impT d e)).k) (.int .i64 (impT (eqT a b) (impT d e)).i) (.slice R2 (impT (eqT a b) (impT d e)).ks.length r2))
    have RS := Lib.hid (E.out.res (.int .i64 (impT (eqT a b) (impT d e)).k) (.int .i64 (impT (eqT a b) (impT d e)).i) (.slice R2 (impT (eqT a b) (impT d e)).ks.length r2))
    obtain ⟨q0, q1, q2⟩ := RS.out.cells
    go_wp2_with fail
    refine (copy_any (impT (eqT a b) (impT d e)).sz (impT (eqT a b) (impT d e)) R2 r2 _ (Nat.le_refl _) (by exact (E2.out.ft (impT (eqT a b) (impT d e)) R2 r2 (by simp)).isT)).mono ?_
    rintro e9 w9 ⟨A9, c9, rfl, ho9, hb9⟩
    have E9 := Lib.hid (E2.out.keep hb9)
    have O9 := Lib.hid ho9
    have z9 := E2.out.size
    have wf0 := E9.out.wb.frozen 0
    have wf1 := E9.out.wb.frozen 1
    have wf2 := E9.out.wb.frozen 2
    have wf3 := E9.out.wb.frozen 3
    have wf4 := E9.out.wb.frozen 4
    obtain ⟨v0, v1, v2, v3, v4⟩ := E9.out.wb.cells
    clear hb9 ho9
    go_wp2_with fail
    obtain ⟨p0, p1, p2, p3, p4⟩ := (E9.out.wb.set5 (.bool true) (.int .i64 (impT (eqT a b) (impT d e)).k) (.int .i64 (impT (eqT a b) (impT d e)).i) (.slice A9 (impT (eqT a b) (impT d e)).ks.length c9) (.int .i64 0)).cells
    obtain ⟨mi, mb⟩ := made_mem E9.out O9.out (by omega) FT.out (.bool true) (.int .i64 (impT (eqT a b) (impT d e)).k) (.int .i64 (impT (eqT a b) (impT d e)).i) (.slice A9 (impT (eqT a b) (impT d e)).ks.length c9) (.int .i64 0)
    exact bodyPost_ret (v := .agg #[.bool true, .int .i64 (impT (eqT a b) (impT d e)).k, .int .i64 (impT (eqT a b) (impT d e)).i, .slice A9 (impT (eqT a b) (impT d e)).ks.length c9, .int .i64 0]) (by simp [results, Tryz.results25, go_sem, p0, p1, p2, p3, p4]) rfl ⟨A9, c9, rfl, mi, mb⟩
end Go.Proofs.YtgnfbhemkombaaaGreat
