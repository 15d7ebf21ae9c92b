/- The instances of package schema: fillFirst .. fillSeventh. -/
import Derived.Test.YtgnfbhemkombaaaGreatH1
namespace Go.Proofs.YtgnfbhemkombaaaGreat
open Go.RowKit
set_option linter.unusedVariables false
set_option linter.unusedSimpArgs false
/-- a box of parts -/
def BoxP (W : World) (b : Nat) (A : Option Addr) (n c : Nat) (x : Int) : Prop := W.heap[b]? = some (.cells #[.slice A n c, .int .i64 x] 32 (0, 0))
theorem BoxP.lt {W : World} {b : Nat} {A : Option Addr} {n c : Nat} {x : Int} (h : BoxP W b A n c x) : b < W.heap.size := (Array.getElem?_eq_some_iff.1 h).1
theorem BoxP.cells {W : World} {b : Nat} {A : Option Addr} {n c : Nat} {x : Int} (h : BoxP W b A n c x) : W.cell? ⟨b, 0, none⟩ = some (.slice A n c) ∧ W.cell? ⟨b, 1, none⟩ = some (.int .i64 x) := by
  unfold BoxP at h
  simp [World.cell?, h]
theorem BoxP.keep {W W' : World} {b B : Nat} {A : Option Addr} {n c : Nat} {x : Int} (h : BoxP W b A n c x) (hb : Below B W W') (hB : b < B) : BoxP W' b A n c x := (hb.block b hB).trans h
theorem BoxP.new (W : World) (A : Option Addr) (n c : Nat) (x : Int) : BoxP (W.alloc (.cells #[.slice A n c, .int .i64 x] 32)) W.heap.size A n c x := new_at W _
/-- three cells of a tree in a row -/
def Three (W : World) (g o : Nat) (t : Tr) (A : Option Addr) (c : Nat) : Prop := W.cell? ⟨g, o, none⟩ = some (.int .i64 t.k) ∧ W.cell? ⟨g, o + 1, none⟩ = some (.int .i64 t.i) ∧ W.cell? ⟨g, o + 2, none⟩ = some (.slice A t.ks.length c)
theorem Three.keep {W W' : World} {g o : Nat} {t : Tr} {A : Option Addr} {c : Nat} {B : Nat} (h : Three W g o t A c) (hb : Below B W W') (hB : g < B) : Three W' g o t A c := ⟨(hb.cell (p := ⟨g, o, none⟩) hB).trans h.1, (hb.cell (p := ⟨g, o + 1, none⟩) hB).trans h.2.1, (hb.cell (p := ⟨g, o + 2, none⟩) hB).trans h.2.2⟩
/-- what may be written: the box for what comes out -/
def RX (w : World) (k : Nat) : Prop := k = w.heap.size + 1
/-- the parts boxed, a box for what comes out, trees in boxes -/
structure FE (w W : World) (A : Option Addr) (n c : Nat) (x : Int) (bs : List (Nat × Tr × Option Addr × Nat)) (ts : List (Tr × Option Addr × Nat)) : Prop where
  pb : BoxP W w.heap.size A n c x
  rb : ∃ u v y, Box3 W (w.heap.size + 1) u v y
  bts : ∀ q ∈ bs, w.heap.size + 2 ≤ q.1 ∧ Box3 W q.1 (.int .i64 q.2.1.k) (.int .i64 q.2.1.i) (.slice q.2.2.1 q.2.1.ks.length q.2.2.2) ∧ FrT (RX w) W q.2.1 q.2.2.1 q.2.2.2
  fts : ∀ q ∈ ts, FrT (RX w) W q.1 q.2.1 q.2.2
  bel : Below w.heap.size w W
  size : w.heap.size + 2 ≤ W.heap.size
section
variable {w W W' : World} {A : Option Addr} {n c : Nat} {x : Int} {bs bs' : List (Nat × Tr × Option Addr × Nat)} {ts : List (Tr × Option Addr × Nat)}
theorem FE.keep (h : FE w W A n c x bs ts) (hb : Below W.heap.size W W') : FE w W' A n c x bs ts :=
  ⟨h.pb.keep hb h.pb.lt, by obtain ⟨u, v, y, hr⟩ := h.rb; exact ⟨u, v, y, hr.keep hb hr.lt⟩, fun q hq => ⟨(h.bts q hq).1, (h.bts q hq).2.1.keep hb (h.bts q hq).2.1.lt, (h.bts q hq).2.2.keep hb⟩, fun q hq => (h.fts q hq).keep hb, h.bel.trans (hb.mono h.bel.size), Nat.le_trans h.size hb.size⟩
theorem FE.drew (h : FE w W A n c x bs ts) : FE w W.drew A n c x bs ts := h.keep (Below.refl _ _).drew
theorem FE.hX (h : FE w W A n c x bs ts) : ∀ k, RX w k → k < W.heap.size := fun k hk => by have := h.size; unfold RX at hk; omega
theorem FE.start (w : World) (A : Option Addr) (n c : Nat) (x : Int) : FE w ((w.alloc (.cells #[.slice A n c, .int .i64 x] 32)).alloc (.cells #[.int .i64 0, .int .i64 0, .slice none 0 0] 24)) A n c x [] [] := by
  have h1 := alB w (.cells #[.slice A n c, .int .i64 x] 32)
  have h2 := alB (w.alloc (.cells #[.slice A n c, .int .i64 x] 32)) (.cells #[.int .i64 0, .int .i64 0, .slice none 0 0] 24)
  have e := Box3.new (w.alloc (.cells #[.slice A n c, .int .i64 x] 32)) (.int .i64 0) (.int .i64 0) (.slice none 0 0)
  rw [World.size_alloc] at e
  exact ⟨(BoxP.new w A n c x).keep h2 (by simp), ⟨_, _, _, e⟩, fun q hq => by simp at hq, fun q hq => by simp at hq, h1.trans (h2.mono (by simp)), by simp⟩
/-- a tree of the arguments, boxed -/
theorem FE.push (h : FE w W A n c x bs ts) {t : Tr} {B : Option Addr} {cb : Nat} (ht : IsT w w.heap.size t B cb) (r : Nat) (hr : r = W.heap.size) : FE w (W.alloc (.cells #[.int .i64 t.k, .int .i64 t.i, .slice B t.ks.length cb] 24)) A n c x ((r, t, B, cb) :: bs) ts := by
  subst hr
  have h' := h.keep (alB W (.cells #[.int .i64 t.k, .int .i64 t.i, .slice B t.ks.length cb] 24))
  refine ⟨h'.pb, h'.rb, fun q hq => ?_, h'.fts, h'.bel, h'.size⟩
  rcases List.mem_cons.1 hq with rfl | hq
  · exact ⟨h.size, Box3.new W _ _ _, FrT.ofB ht (fun k hk => by unfold RX at hk; omega) h'.bel⟩
  · exact h'.bts q hq
theorem FE.cells (h : FE w W A n c x bs ts) (b : Nat) (t : Tr) (B : Option Addr) (cb : Nat) (hx : (b, t, B, cb) ∈ bs) : W.cell? ⟨b, 0, none⟩ = some (.int .i64 t.k) ∧ W.cell? ⟨b, 1, none⟩ = some (.int .i64 t.i) ∧ W.cell? ⟨b, 2, none⟩ = some (.slice B t.ks.length cb) := (h.bts _ hx).2.1.cells
theorem FE.fr (h : FE w W A n c x bs ts) (b : Nat) (t : Tr) (B : Option Addr) (cb : Nat) (hx : (b, t, B, cb) ∈ bs) : FrT (RX w) W t B cb := (h.bts _ hx).2.2
theorem FE.set (h : FE w W A n c x bs ts) (u v y : Value) : FE w (((W.setCell ⟨w.heap.size + 1, 0, none⟩ u).setCell ⟨w.heap.size + 1, 1, none⟩ v).setCell ⟨w.heap.size + 1, 2, none⟩ y) A n c x bs ts := by
  have far : ∀ k, k ≠ w.heap.size + 1 → (((W.setCell ⟨w.heap.size + 1, 0, none⟩ u).setCell ⟨w.heap.size + 1, 1, none⟩ v).setCell ⟨w.heap.size + 1, 2, none⟩ y).heap[k]? = W.heap[k]? := fun k hk => by
    rw [heap_setCell_other _ _ _ _ hk, heap_setCell_other _ _ _ _ hk, heap_setCell_other _ _ _ _ hk]
  refine ⟨(far _ (by omega)).trans h.pb, ?_, fun q hq => ?_, fun q hq => (h.fts q hq).set3 rfl _ _ _, below_set3 h.bel _ _ _ (by omega), by have := h.size; simpa using this⟩
  · obtain ⟨u', v', y', hr⟩ := h.rb
    exact ⟨_, _, _, hr.setall u v y⟩
  · obtain ⟨h1, h2, h3⟩ := h.bts q hq
    exact ⟨h1, (far _ (by omega)).trans h2, h3.set3 rfl _ _ _⟩
theorem FE.res (h : FE w W A n c x bs ts) (u v y : Value) : Box3 (((W.setCell ⟨w.heap.size + 1, 0, none⟩ u).setCell ⟨w.heap.size + 1, 1, none⟩ v).setCell ⟨w.heap.size + 1, 2, none⟩ y) (w.heap.size + 1) u v y := by
  obtain ⟨u', v', y', hr⟩ := h.rb
  exact hr.setall u v y
theorem FE.more (h : FE w W A n c x bs ts) {t : Tr} {B : Option Addr} {cb : Nat} (ht : FrT (RX w) W t B cb) : FE w W A n c x bs ((t, B, cb) :: ts) :=
  ⟨h.pb, h.rb, h.bts, fun q hq => by rcases List.mem_cons.1 hq with rfl | hq; exact ht; exact h.fts q hq, h.bel, h.size⟩
theorem FE.ft (h : FE w W A n c x bs ts) (t : Tr) (B : Option Addr) (cb : Nat) (hx : (t, B, cb) ∈ ts) : FrT (RX w) W t B cb := h.fts _ hx
theorem FE.perm (h : FE w W A n c x bs ts) (hs : ∀ q, q ∈ bs' → q ∈ bs) : FE w W A n c x bs' ts := ⟨h.pb, h.rb, fun q hq => h.bts q (hs q hq), h.fts, h.bel, h.size⟩
theorem FE.froz (h : FE w W A n c x bs ts) (o : Nat) : W.frozen? ⟨w.heap.size + 1, o, none⟩ = false := by
  obtain ⟨u', v', y', hr⟩ := h.rb
  exact hr.frozen o
end
/-- an instance that is made, or why not -/
def FillP (w : World) (t : Tr) (f : Nat) (e : Ending) (w' : World) : Prop := ∃ A c, e = .returned (.tuple #[.agg #[.int .i64 t.k, .int .i64 t.i, .slice A t.ks.length c], .int .i64 (f : Int)]) ∧ IsT w' w'.heap.size t A c ∧ Below w.heap.size w w'
theorem kids1 {W : World} {B : Nat} {a : Tr} {A : Option Addr} {c : Nat} (h : IsT W B (.node 0 0 [a]) A c) : ∃ g o Aa ca, A = some ⟨g, o, none⟩ ∧ g < B ∧ (Three W g o a Aa ca) ∧ (IsT W B a Aa ca) ∧ 1 ≤ c := by
  obtain ⟨ga, oa, Aa, ka, ea, hla, pa0, pa1, pa2, hka⟩ := h.kid 0 (by show 0 < 1; omega)
  subst ea
  have za : oa + 0 * 3 = oa := by omega
  rw [za] at pa0 pa1 pa2
  exact ⟨ga, oa, Aa, ka, rfl, hla, ⟨pa0, pa1, pa2⟩, hka, h.len.1⟩
theorem kids2 {W : World} {B : Nat} {a b : Tr} {A : Option Addr} {c : Nat} (h : IsT W B (.node 0 0 [a, b]) A c) : ∃ g o Aa ca Ab cb, A = some ⟨g, o, none⟩ ∧ g < B ∧ (Three W g o a Aa ca ∧ Three W g (o + 3) b Ab cb) ∧ (IsT W B a Aa ca ∧ IsT W B b Ab cb) ∧ 2 ≤ c := by
  obtain ⟨ga, oa, Aa, ka, ea, hla, pa0, pa1, pa2, hka⟩ := h.kid 0 (by show 0 < 2; omega)
  obtain ⟨gb, ob, Ab, kb, eb, hlb, pb0, pb1, pb2, hkb⟩ := h.kid 1 (by show 1 < 2; omega)
  subst ea
  cases eb
  have za : oa + 0 * 3 = oa := by omega
  rw [za] at pa0 pa1 pa2
  have zb : oa + 1 * 3 = oa + 3 := by omega
  rw [zb] at pb0 pb1 pb2
  exact ⟨ga, oa, Aa, ka, Ab, kb, rfl, hla, ⟨⟨pa0, pa1, pa2⟩, ⟨pb0, pb1, pb2⟩⟩, ⟨hka, hkb⟩, h.len.1⟩
theorem kids3 {W : World} {B : Nat} {a b d : Tr} {A : Option Addr} {c : Nat} (h : IsT W B (.node 0 0 [a, b, d]) A c) : ∃ g o Aa ca Ab cb Ad cd, A = some ⟨g, o, none⟩ ∧ g < B ∧ (Three W g o a Aa ca ∧ Three W g (o + 3) b Ab cb ∧ Three W g (o + 6) d Ad cd) ∧ (IsT W B a Aa ca ∧ IsT W B b Ab cb ∧ IsT W B d Ad cd) ∧ 3 ≤ c := by
  obtain ⟨ga, oa, Aa, ka, ea, hla, pa0, pa1, pa2, hka⟩ := h.kid 0 (by show 0 < 3; omega)
  obtain ⟨gb, ob, Ab, kb, eb, hlb, pb0, pb1, pb2, hkb⟩ := h.kid 1 (by show 1 < 3; omega)
  obtain ⟨gd, od, Ad, kd, ed, hld, pd0, pd1, pd2, hkd⟩ := h.kid 2 (by show 2 < 3; omega)
  subst ea
  cases eb
  cases ed
  have za : oa + 0 * 3 = oa := by omega
  rw [za] at pa0 pa1 pa2
  have zb : oa + 1 * 3 = oa + 3 := by omega
  rw [zb] at pb0 pb1 pb2
  have zd : oa + 2 * 3 = oa + 6 := by omega
  rw [zd] at pd0 pd1 pd2
  exact ⟨ga, oa, Aa, ka, Ab, kb, Ad, kd, rfl, hla, ⟨⟨pa0, pa1, pa2⟩, ⟨pb0, pb1, pb2⟩, ⟨pd0, pd1, pd2⟩⟩, ⟨hka, hkb, hkd⟩, h.len.1⟩
theorem kids4 {W : World} {B : Nat} {a b d e : Tr} {A : Option Addr} {c : Nat} (h : IsT W B (.node 0 0 [a, b, d, e]) A c) : ∃ g o Aa ca Ab cb Ad cd Ae ce, A = some ⟨g, o, none⟩ ∧ g < B ∧ (Three W g o a Aa ca ∧ Three W g (o + 3) b Ab cb ∧ Three W g (o + 6) d Ad cd ∧ Three W g (o + 9) e Ae ce) ∧ (IsT W B a Aa ca ∧ IsT W B b Ab cb ∧ IsT W B d Ad cd ∧ IsT W B e Ae ce) ∧ 4 ≤ c := by
  obtain ⟨ga, oa, Aa, ka, ea, hla, pa0, pa1, pa2, hka⟩ := h.kid 0 (by show 0 < 4; omega)
  obtain ⟨gb, ob, Ab, kb, eb, hlb, pb0, pb1, pb2, hkb⟩ := h.kid 1 (by show 1 < 4; omega)
  obtain ⟨gd, od, Ad, kd, ed, hld, pd0, pd1, pd2, hkd⟩ := h.kid 2 (by show 2 < 4; omega)
  obtain ⟨ge, oe, Ae, ke, ee, hle, pe0, pe1, pe2, hke⟩ := h.kid 3 (by show 3 < 4; omega)
  subst ea
  cases eb
  cases ed
  cases ee
  have za : oa + 0 * 3 = oa := by omega
  rw [za] at pa0 pa1 pa2
  have zb : oa + 1 * 3 = oa + 3 := by omega
  rw [zb] at pb0 pb1 pb2
  have zd : oa + 2 * 3 = oa + 6 := by omega
  rw [zd] at pd0 pd1 pd2
  have ze : oa + 3 * 3 = oa + 9 := by omega
  rw [ze] at pe0 pe1 pe2
  exact ⟨ga, oa, Aa, ka, Ab, kb, Ad, kd, Ae, ke, rfl, hla, ⟨⟨pa0, pa1, pa2⟩, ⟨pb0, pb1, pb2⟩, ⟨pd0, pd1, pd2⟩, ⟨pe0, pe1, pe2⟩⟩, ⟨hka, hkb, hkd, hke⟩, h.len.1⟩
set_option maxHeartbeats 8000000 in
set_option maxRecDepth 100000 in
theorem fill1_any (a b : Tr) (A : Option Addr) (c : Nat) (x : Int) (w : World) (hl : IsT w w.heap.size (.node 0 0 [a, b]) A c) :
    Calls Tryz.prog 35 #[.agg #[.slice A 2 c, .int .i64 x]] w (FillP w (impT a (impT b a)) 0) := by
  obtain ⟨g, o, Aa, ca, Ab, cb, rfl, hg, ⟨ha, hb⟩, ⟨ta, tb⟩, hcn⟩ := kids2 hl
  have F0 := Lib.hid (FE.start w (some ⟨g, o, none⟩) 2 c x)
  have F1 := Lib.hid F0.out.drew
  have hgz : g < (((w.alloc (.cells #[.slice (some ⟨g, o, none⟩) 2 c, .int .i64 x] 32)).alloc (.cells #[.int .i64 0, .int .i64 0, .slice none 0 0] 24)).drew).heap.size := by show g < ((w.alloc _).alloc _).heap.size; simp; omega
  have Ha := Lib.hid (ha.keep F1.out.bel hg)
  have Ta := Lib.hid ta
  have Hb := Lib.hid (hb.keep F1.out.bel hg)
  have Tb := Lib.hid tb
  clear hl ha hb ta tb
  go_enter Tryz.func35, Tryz.ntmps35
  go_upto_region 1 with fail
  go_cut [4, 5] (fun pa pb wc => ∃ na nb, pa = .pointer (some ⟨na, 0, none⟩) ∧ pb = .pointer (some ⟨nb, 0, none⟩) ∧ FE w wc (some ⟨g, o, none⟩) 2 c x [(na, a, Aa, ca), (nb, b, Ab, cb)] [])
  case first =>
    go_region_held3 (fun w' => w'.cell? ⟨w.heap.size, 0, none⟩ = some (.slice (some ⟨g, o, none⟩) 2 c) ∧ ((w'.cell? ⟨g, o, none⟩ = some (.int .i64 a.k) ∧ w'.cell? ⟨g, o + 1, none⟩ = some (.int .i64 a.i) ∧ w'.cell? ⟨g, o + 2, none⟩ = some (.slice Aa a.ks.length ca)) ∧ (w'.cell? ⟨g, o + 3, none⟩ = some (.int .i64 b.k) ∧ w'.cell? ⟨g, o + 3 + 1, none⟩ = some (.int .i64 b.i) ∧ w'.cell? ⟨g, o + 3 + 2, none⟩ = some (.slice Ab b.ks.length cb))))
      (first | exact ⟨F1.out.pb.cells.1, Ha.out, Hb.out⟩ | exact ⟨(F1.out.keep (alB _ _)).pb.cells.1, (Ha.out.keep (alB _ _) hgz), (Hb.out.keep (alB _ _) hgz)⟩ | exact ⟨((F1.out.keep (alB _ _)).keep (alB _ _)).pb.cells.1, ((Ha.out.keep (alB _ _) hgz).keep (alB _ _) (by simp; omega)), ((Hb.out.keep (alB _ _) hgz).keep (alB _ _) (by simp; omega))⟩)
      (fail)
    all_goals go_wp2_with fail
    all_goals go_meet
    all_goals first
      | exact ⟨_, _, rfl, rfl, ((F0.out.push Ta.out (w.heap.size + 1 + 1) (by simp)).push Tb.out (w.heap.size + 1 + 1 + 1) (by simp)).drew.perm (by simp)⟩
      | exact ⟨_, _, rfl, rfl, ((F0.out.push Tb.out (w.heap.size + 1 + 1) (by simp)).push Ta.out (w.heap.size + 1 + 1 + 1) (by simp)).drew.perm (by simp)⟩
  case rest =>
    obtain ⟨na, nb, rfl, rfl, hE⟩ := hcut
    have E := Lib.hid hE.drew
    clear hE F0 F1 Ha Hb Ta Tb
    go_wp2_with fail
    go_region_held3 (fun w' => (w'.cell? ⟨na, 0, none⟩ = some (.int .i64 a.k) ∧ w'.cell? ⟨na, 1, none⟩ = some (.int .i64 a.i) ∧ w'.cell? ⟨na, 2, none⟩ = some (.slice Aa a.ks.length ca)) ∧ (w'.cell? ⟨nb, 0, none⟩ = some (.int .i64 b.k) ∧ w'.cell? ⟨nb, 1, none⟩ = some (.int .i64 b.i) ∧ w'.cell? ⟨nb, 2, none⟩ = some (.slice Ab b.ks.length cb)))
      (first | exact ⟨E.out.cells na a Aa ca (by simp), E.out.cells nb b Ab cb (by simp)⟩ | exact ⟨(E.out.set _ _ _).cells na a Aa ca (by simp), (E.out.set _ _ _).cells nb b Ab cb (by simp)⟩)
      (first
        | (go_at_call 76; refine (imp_any (RX w) b a Ab Aa cb ca _ E.out.hX (E.out.fr nb b Ab cb (by simp)) (E.out.fr na a Aa ca (by simp))).mono ?_; rintro e5 w5 ⟨R0, r0, rfl, h5, hb5⟩; replace E := Lib.hid ((E.out.keep hb5).more h5); have f0 := E.out.froz 0; have f1 := E.out.froz 1; have f2 := E.out.froz 2; obtain ⟨u5, v5, y5, hr5⟩ := E.out.rb; obtain ⟨s0, s1, s2⟩ := hr5.cells; clear hb5 h5 hr5)
        | (go_at_call 76; refine (imp_any (RX w) a (impT b a) Aa R0 ca r0 _ E.out.hX (E.out.fr na a Aa ca (by simp)) (E.out.ft (impT b a) R0 r0 (by simp))).mono ?_; rintro e5 w5 ⟨R1, r1, rfl, h5, hb5⟩; replace E := Lib.hid ((E.out.keep hb5).more h5); have f0 := E.out.froz 0; have f1 := E.out.froz 1; have f2 := E.out.froz 2; obtain ⟨u5, v5, y5, hr5⟩ := E.out.rb; obtain ⟨s0, s1, s2⟩ := hr5.cells; clear hb5 h5 hr5))
    all_goals go_wp2_with fail
    all_goals
      obtain ⟨q0, q1, q2⟩ := (E.out.res (.int .i64 (impT a (impT b a)).k) (.int .i64 (impT a (impT b a)).i) (.slice R1 (impT a (impT b a)).ks.length r1)).cells
      exact bodyPost_ret (v := .tuple #[.agg #[.int .i64 (impT a (impT b a)).k, .int .i64 (impT a (impT b a)).i, .slice R1 (impT a (impT b a)).ks.length r1], .int .i64 0]) (by simp [results, Tryz.results35, go_sem, q0, q1, q2]) rfl ⟨R1, r1, rfl, ((E.out.ft (impT a (impT b a)) R1 r1 (by simp)).set3 rfl _ _ _).isT, (E.out.set _ _ _).bel⟩
set_option maxHeartbeats 8000000 in
set_option maxRecDepth 100000 in
theorem fill3_any (a b : Tr) (A : Option Addr) (c : Nat) (x : Int) (w : World) (hl : IsT w w.heap.size (.node 0 0 [a, b]) A c) :
    Calls Tryz.prog 39 #[.agg #[.slice A 2 c, .int .i64 x]] w (FillP w (impT (impT (notT a) (notT b)) (impT b a)) 0) := by
  obtain ⟨g, o, Aa, ca, Ab, cb, rfl, hg, ⟨ha, hb⟩, ⟨ta, tb⟩, hcn⟩ := kids2 hl
  have F0 := Lib.hid (FE.start w (some ⟨g, o, none⟩) 2 c x)
  have F1 := Lib.hid F0.out.drew
  have hgz : g < (((w.alloc (.cells #[.slice (some ⟨g, o, none⟩) 2 c, .int .i64 x] 32)).alloc (.cells #[.int .i64 0, .int .i64 0, .slice none 0 0] 24)).drew).heap.size := by show g < ((w.alloc _).alloc _).heap.size; simp; omega
  have Ha := Lib.hid (ha.keep F1.out.bel hg)
  have Ta := Lib.hid ta
  have Hb := Lib.hid (hb.keep F1.out.bel hg)
  have Tb := Lib.hid tb
  clear hl ha hb ta tb
  go_enter Tryz.func39, Tryz.ntmps39
  go_upto_region 1 with fail
  go_cut [4, 5] (fun pa pb wc => ∃ na nb, pa = .pointer (some ⟨na, 0, none⟩) ∧ pb = .pointer (some ⟨nb, 0, none⟩) ∧ FE w wc (some ⟨g, o, none⟩) 2 c x [(na, a, Aa, ca), (nb, b, Ab, cb)] [])
  case first =>
    go_region_held3 (fun w' => w'.cell? ⟨w.heap.size, 0, none⟩ = some (.slice (some ⟨g, o, none⟩) 2 c) ∧ ((w'.cell? ⟨g, o, none⟩ = some (.int .i64 a.k) ∧ w'.cell? ⟨g, o + 1, none⟩ = some (.int .i64 a.i) ∧ w'.cell? ⟨g, o + 2, none⟩ = some (.slice Aa a.ks.length ca)) ∧ (w'.cell? ⟨g, o + 3, none⟩ = some (.int .i64 b.k) ∧ w'.cell? ⟨g, o + 3 + 1, none⟩ = some (.int .i64 b.i) ∧ w'.cell? ⟨g, o + 3 + 2, none⟩ = some (.slice Ab b.ks.length cb))))
      (first | exact ⟨F1.out.pb.cells.1, Ha.out, Hb.out⟩ | exact ⟨(F1.out.keep (alB _ _)).pb.cells.1, (Ha.out.keep (alB _ _) hgz), (Hb.out.keep (alB _ _) hgz)⟩ | exact ⟨((F1.out.keep (alB _ _)).keep (alB _ _)).pb.cells.1, ((Ha.out.keep (alB _ _) hgz).keep (alB _ _) (by simp; omega)), ((Hb.out.keep (alB _ _) hgz).keep (alB _ _) (by simp; omega))⟩)
      (fail)
    all_goals go_wp2_with fail
    all_goals go_meet
    all_goals first
      | exact ⟨_, _, rfl, rfl, ((F0.out.push Ta.out (w.heap.size + 1 + 1) (by simp)).push Tb.out (w.heap.size + 1 + 1 + 1) (by simp)).drew.perm (by simp)⟩
      | exact ⟨_, _, rfl, rfl, ((F0.out.push Tb.out (w.heap.size + 1 + 1) (by simp)).push Ta.out (w.heap.size + 1 + 1 + 1) (by simp)).drew.perm (by simp)⟩
  case rest =>
    obtain ⟨na, nb, rfl, rfl, hE⟩ := hcut
    have E := Lib.hid hE.drew
    clear hE F0 F1 Ha Hb Ta Tb
    go_wp2_with fail
    go_region_held3 (fun w' => (w'.cell? ⟨na, 0, none⟩ = some (.int .i64 a.k) ∧ w'.cell? ⟨na, 1, none⟩ = some (.int .i64 a.i) ∧ w'.cell? ⟨na, 2, none⟩ = some (.slice Aa a.ks.length ca)) ∧ (w'.cell? ⟨nb, 0, none⟩ = some (.int .i64 b.k) ∧ w'.cell? ⟨nb, 1, none⟩ = some (.int .i64 b.i) ∧ w'.cell? ⟨nb, 2, none⟩ = some (.slice Ab b.ks.length cb)))
      (first | exact ⟨E.out.cells na a Aa ca (by simp), E.out.cells nb b Ab cb (by simp)⟩ | exact ⟨(E.out.set _ _ _).cells na a Aa ca (by simp), (E.out.set _ _ _).cells nb b Ab cb (by simp)⟩)
      (first
        | (go_at_call 78; refine (not_any (RX w) a Aa ca _ E.out.hX (E.out.fr na a Aa ca (by simp))).mono ?_; rintro e5 w5 ⟨R0, r0, rfl, h5, hb5⟩; replace E := Lib.hid ((E.out.keep hb5).more h5); have f0 := E.out.froz 0; have f1 := E.out.froz 1; have f2 := E.out.froz 2; obtain ⟨u5, v5, y5, hr5⟩ := E.out.rb; obtain ⟨s0, s1, s2⟩ := hr5.cells; clear hb5 h5 hr5)
        | (go_at_call 78; refine (not_any (RX w) b Ab cb _ E.out.hX (E.out.fr nb b Ab cb (by simp))).mono ?_; rintro e5 w5 ⟨R1, r1, rfl, h5, hb5⟩; replace E := Lib.hid ((E.out.keep hb5).more h5); have f0 := E.out.froz 0; have f1 := E.out.froz 1; have f2 := E.out.froz 2; obtain ⟨u5, v5, y5, hr5⟩ := E.out.rb; obtain ⟨s0, s1, s2⟩ := hr5.cells; clear hb5 h5 hr5)
        | (go_at_call 76; refine (imp_any (RX w) (notT a) (notT b) R0 R1 r0 r1 _ E.out.hX (E.out.ft (notT a) R0 r0 (by simp)) (E.out.ft (notT b) R1 r1 (by simp))).mono ?_; rintro e5 w5 ⟨R2, r2, rfl, h5, hb5⟩; replace E := Lib.hid ((E.out.keep hb5).more h5); have f0 := E.out.froz 0; have f1 := E.out.froz 1; have f2 := E.out.froz 2; obtain ⟨u5, v5, y5, hr5⟩ := E.out.rb; obtain ⟨s0, s1, s2⟩ := hr5.cells; clear hb5 h5 hr5)
        | (go_at_call 76; refine (imp_any (RX w) b a Ab Aa cb ca _ E.out.hX (E.out.fr nb b Ab cb (by simp)) (E.out.fr na a Aa ca (by simp))).mono ?_; rintro e5 w5 ⟨R3, r3, rfl, h5, hb5⟩; replace E := Lib.hid ((E.out.keep hb5).more h5); have f0 := E.out.froz 0; have f1 := E.out.froz 1; have f2 := E.out.froz 2; obtain ⟨u5, v5, y5, hr5⟩ := E.out.rb; obtain ⟨s0, s1, s2⟩ := hr5.cells; clear hb5 h5 hr5)
        | (go_at_call 76; refine (imp_any (RX w) (impT (notT a) (notT b)) (impT b a) R2 R3 r2 r3 _ E.out.hX (E.out.ft (impT (notT a) (notT b)) R2 r2 (by simp)) (E.out.ft (impT b a) R3 r3 (by simp))).mono ?_; rintro e5 w5 ⟨R4, r4, rfl, h5, hb5⟩; replace E := Lib.hid ((E.out.keep hb5).more h5); have f0 := E.out.froz 0; have f1 := E.out.froz 1; have f2 := E.out.froz 2; obtain ⟨u5, v5, y5, hr5⟩ := E.out.rb; obtain ⟨s0, s1, s2⟩ := hr5.cells; clear hb5 h5 hr5))
    all_goals go_wp2_with fail
    all_goals
      obtain ⟨q0, q1, q2⟩ := (E.out.res (.int .i64 (impT (impT (notT a) (notT b)) (impT b a)).k) (.int .i64 (impT (impT (notT a) (notT b)) (impT b a)).i) (.slice R4 (impT (impT (notT a) (notT b)) (impT b a)).ks.length r4)).cells
      exact bodyPost_ret (v := .tuple #[.agg #[.int .i64 (impT (impT (notT a) (notT b)) (impT b a)).k, .int .i64 (impT (impT (notT a) (notT b)) (impT b a)).i, .slice R4 (impT (impT (notT a) (notT b)) (impT b a)).ks.length r4], .int .i64 0]) (by simp [results, Tryz.results39, go_sem, q0, q1, q2]) rfl ⟨R4, r4, rfl, ((E.out.ft (impT (impT (notT a) (notT b)) (impT b a)) R4 r4 (by simp)).set3 rfl _ _ _).isT, (E.out.set _ _ _).bel⟩
set_option maxHeartbeats 8000000 in
set_option maxRecDepth 100000 in
theorem fill5_any (a b : Tr) (A : Option Addr) (c : Nat) (x : Int) (w : World) (hl : IsT w w.heap.size (.node 0 0 [a, b]) A c) :
    Calls Tryz.prog 43 #[.agg #[.slice A 2 c, .int .i64 x]] w (FillP w (impT (allT x (impT a b)) (impT a (allT x b))) 0) := by
  obtain ⟨g, o, Aa, ca, Ab, cb, rfl, hg, ⟨ha, hb⟩, ⟨ta, tb⟩, hcn⟩ := kids2 hl
  have F0 := Lib.hid (FE.start w (some ⟨g, o, none⟩) 2 c x)
  have F1 := Lib.hid F0.out.drew
  have hgz : g < (((w.alloc (.cells #[.slice (some ⟨g, o, none⟩) 2 c, .int .i64 x] 32)).alloc (.cells #[.int .i64 0, .int .i64 0, .slice none 0 0] 24)).drew).heap.size := by show g < ((w.alloc _).alloc _).heap.size; simp; omega
  have Ha := Lib.hid (ha.keep F1.out.bel hg)
  have Ta := Lib.hid ta
  have Hb := Lib.hid (hb.keep F1.out.bel hg)
  have Tb := Lib.hid tb
  clear hl ha hb ta tb
  go_enter Tryz.func43, Tryz.ntmps43
  go_upto_region 1 with fail
  go_cut [4, 5, 6] (fun pa pb px wc => ∃ na nb, pa = .pointer (some ⟨na, 0, none⟩) ∧ pb = .pointer (some ⟨nb, 0, none⟩) ∧ px = .int .i64 x ∧ FE w wc (some ⟨g, o, none⟩) 2 c x [(na, a, Aa, ca), (nb, b, Ab, cb)] [])
  case first =>
    go_region_held3 (fun w' => w'.cell? ⟨w.heap.size, 0, none⟩ = some (.slice (some ⟨g, o, none⟩) 2 c) ∧ (w'.cell? ⟨w.heap.size, 1, none⟩ = some (.int .i64 x) ∧ ((w'.cell? ⟨g, o, none⟩ = some (.int .i64 a.k) ∧ w'.cell? ⟨g, o + 1, none⟩ = some (.int .i64 a.i) ∧ w'.cell? ⟨g, o + 2, none⟩ = some (.slice Aa a.ks.length ca)) ∧ (w'.cell? ⟨g, o + 3, none⟩ = some (.int .i64 b.k) ∧ w'.cell? ⟨g, o + 3 + 1, none⟩ = some (.int .i64 b.i) ∧ w'.cell? ⟨g, o + 3 + 2, none⟩ = some (.slice Ab b.ks.length cb)))))
      (first | exact ⟨F1.out.pb.cells.1, F1.out.pb.cells.2, Ha.out, Hb.out⟩ | exact ⟨(F1.out.keep (alB _ _)).pb.cells.1, (F1.out.keep (alB _ _)).pb.cells.2, (Ha.out.keep (alB _ _) hgz), (Hb.out.keep (alB _ _) hgz)⟩ | exact ⟨((F1.out.keep (alB _ _)).keep (alB _ _)).pb.cells.1, ((F1.out.keep (alB _ _)).keep (alB _ _)).pb.cells.2, ((Ha.out.keep (alB _ _) hgz).keep (alB _ _) (by simp; omega)), ((Hb.out.keep (alB _ _) hgz).keep (alB _ _) (by simp; omega))⟩)
      (fail)
    all_goals go_wp2_with fail
    all_goals go_meet
    all_goals first
      | exact ⟨_, _, rfl, rfl, rfl, ((F0.out.push Ta.out (w.heap.size + 1 + 1) (by simp)).push Tb.out (w.heap.size + 1 + 1 + 1) (by simp)).drew.perm (by simp)⟩
      | exact ⟨_, _, rfl, rfl, rfl, ((F0.out.push Tb.out (w.heap.size + 1 + 1) (by simp)).push Ta.out (w.heap.size + 1 + 1 + 1) (by simp)).drew.perm (by simp)⟩
  case rest =>
    obtain ⟨na, nb, rfl, rfl, rfl, hE⟩ := hcut
    have E := Lib.hid hE.drew
    clear hE F0 F1 Ha Hb Ta Tb
    go_wp2_with fail
    go_region_held3 (fun w' => (w'.cell? ⟨na, 0, none⟩ = some (.int .i64 a.k) ∧ w'.cell? ⟨na, 1, none⟩ = some (.int .i64 a.i) ∧ w'.cell? ⟨na, 2, none⟩ = some (.slice Aa a.ks.length ca)) ∧ (w'.cell? ⟨nb, 0, none⟩ = some (.int .i64 b.k) ∧ w'.cell? ⟨nb, 1, none⟩ = some (.int .i64 b.i) ∧ w'.cell? ⟨nb, 2, none⟩ = some (.slice Ab b.ks.length cb)))
      (first | exact ⟨E.out.cells na a Aa ca (by simp), E.out.cells nb b Ab cb (by simp)⟩ | exact ⟨(E.out.set _ _ _).cells na a Aa ca (by simp), (E.out.set _ _ _).cells nb b Ab cb (by simp)⟩)
      (first
        | (go_at_call 76; refine (imp_any (RX w) a b Aa Ab ca cb _ E.out.hX (E.out.fr na a Aa ca (by simp)) (E.out.fr nb b Ab cb (by simp))).mono ?_; rintro e5 w5 ⟨R0, r0, rfl, h5, hb5⟩; replace E := Lib.hid ((E.out.keep hb5).more h5); have f0 := E.out.froz 0; have f1 := E.out.froz 1; have f2 := E.out.froz 2; obtain ⟨u5, v5, y5, hr5⟩ := E.out.rb; obtain ⟨s0, s1, s2⟩ := hr5.cells; clear hb5 h5 hr5)
        | (go_at_call 82; refine (all_any (RX w) x (impT a b) R0 r0 _ E.out.hX (E.out.ft (impT a b) R0 r0 (by simp))).mono ?_; rintro e5 w5 ⟨R1, r1, rfl, h5, hb5⟩; replace E := Lib.hid ((E.out.keep hb5).more h5); have f0 := E.out.froz 0; have f1 := E.out.froz 1; have f2 := E.out.froz 2; obtain ⟨u5, v5, y5, hr5⟩ := E.out.rb; obtain ⟨s0, s1, s2⟩ := hr5.cells; clear hb5 h5 hr5)
        | (go_at_call 82; refine (all_any (RX w) x b Ab cb _ E.out.hX (E.out.fr nb b Ab cb (by simp))).mono ?_; rintro e5 w5 ⟨R2, r2, rfl, h5, hb5⟩; replace E := Lib.hid ((E.out.keep hb5).more h5); have f0 := E.out.froz 0; have f1 := E.out.froz 1; have f2 := E.out.froz 2; obtain ⟨u5, v5, y5, hr5⟩ := E.out.rb; obtain ⟨s0, s1, s2⟩ := hr5.cells; clear hb5 h5 hr5)
        | (go_at_call 76; refine (imp_any (RX w) a (allT x b) Aa R2 ca r2 _ E.out.hX (E.out.fr na a Aa ca (by simp)) (E.out.ft (allT x b) R2 r2 (by simp))).mono ?_; rintro e5 w5 ⟨R3, r3, rfl, h5, hb5⟩; replace E := Lib.hid ((E.out.keep hb5).more h5); have f0 := E.out.froz 0; have f1 := E.out.froz 1; have f2 := E.out.froz 2; obtain ⟨u5, v5, y5, hr5⟩ := E.out.rb; obtain ⟨s0, s1, s2⟩ := hr5.cells; clear hb5 h5 hr5)
        | (go_at_call 76; refine (imp_any (RX w) (allT x (impT a b)) (impT a (allT x b)) R1 R3 r1 r3 _ E.out.hX (E.out.ft (allT x (impT a b)) R1 r1 (by simp)) (E.out.ft (impT a (allT x b)) R3 r3 (by simp))).mono ?_; rintro e5 w5 ⟨R4, r4, rfl, h5, hb5⟩; replace E := Lib.hid ((E.out.keep hb5).more h5); have f0 := E.out.froz 0; have f1 := E.out.froz 1; have f2 := E.out.froz 2; obtain ⟨u5, v5, y5, hr5⟩ := E.out.rb; obtain ⟨s0, s1, s2⟩ := hr5.cells; clear hb5 h5 hr5))
    all_goals go_wp2_with fail
    all_goals
      obtain ⟨q0, q1, q2⟩ := (E.out.res (.int .i64 (impT (allT x (impT a b)) (impT a (allT x b))).k) (.int .i64 (impT (allT x (impT a b)) (impT a (allT x b))).i) (.slice R4 (impT (allT x (impT a b)) (impT a (allT x b))).ks.length r4)).cells
      exact bodyPost_ret (v := .tuple #[.agg #[.int .i64 (impT (allT x (impT a b)) (impT a (allT x b))).k, .int .i64 (impT (allT x (impT a b)) (impT a (allT x b))).i, .slice R4 (impT (allT x (impT a b)) (impT a (allT x b))).ks.length r4], .int .i64 0]) (by simp [results, Tryz.results43, go_sem, q0, q1, q2]) rfl ⟨R4, r4, rfl, ((E.out.ft (impT (allT x (impT a b)) (impT a (allT x b))) R4 r4 (by simp)).set3 rfl _ _ _).isT, (E.out.set _ _ _).bel⟩
set_option maxHeartbeats 8000000 in
set_option maxRecDepth 100000 in
theorem fill2_any (a b d : Tr) (A : Option Addr) (c : Nat) (x : Int) (w : World) (hl : IsT w w.heap.size (.node 0 0 [a, b, d]) A c) :
    Calls Tryz.prog 38 #[.agg #[.slice A 3 c, .int .i64 x]] w (FillP w (impT (impT a (impT b d)) (impT (impT a b) (impT a d))) 0) := by
  obtain ⟨g, o, Aa, ca, Ab, cb, Ad, cd, rfl, hg, ⟨ha, hb, hd⟩, ⟨ta, tb, td⟩, hcn⟩ := kids3 hl
  have F0 := Lib.hid (FE.start w (some ⟨g, o, none⟩) 3 c x)
  have F1 := Lib.hid F0.out.drew
  have hgz : g < (((w.alloc (.cells #[.slice (some ⟨g, o, none⟩) 3 c, .int .i64 x] 32)).alloc (.cells #[.int .i64 0, .int .i64 0, .slice none 0 0] 24)).drew).heap.size := by show g < ((w.alloc _).alloc _).heap.size; simp; omega
  have Ha := Lib.hid (ha.keep F1.out.bel hg)
  have Ta := Lib.hid ta
  have Hb := Lib.hid (hb.keep F1.out.bel hg)
  have Tb := Lib.hid tb
  have Hd := Lib.hid (hd.keep F1.out.bel hg)
  have Td := Lib.hid td
  clear hl ha hb hd ta tb td
  go_enter Tryz.func38, Tryz.ntmps38
  go_upto_region 1 with fail
  go_cut [4, 5, 6] (fun pa pb pd wc => ∃ na nb nd, pa = .pointer (some ⟨na, 0, none⟩) ∧ pb = .pointer (some ⟨nb, 0, none⟩) ∧ pd = .pointer (some ⟨nd, 0, none⟩) ∧ FE w wc (some ⟨g, o, none⟩) 3 c x [(na, a, Aa, ca), (nb, b, Ab, cb), (nd, d, Ad, cd)] [])
  case first =>
    go_region_held3 (fun w' => w'.cell? ⟨w.heap.size, 0, none⟩ = some (.slice (some ⟨g, o, none⟩) 3 c) ∧ ((w'.cell? ⟨g, o, none⟩ = some (.int .i64 a.k) ∧ w'.cell? ⟨g, o + 1, none⟩ = some (.int .i64 a.i) ∧ w'.cell? ⟨g, o + 2, none⟩ = some (.slice Aa a.ks.length ca)) ∧ ((w'.cell? ⟨g, o + 3, none⟩ = some (.int .i64 b.k) ∧ w'.cell? ⟨g, o + 3 + 1, none⟩ = some (.int .i64 b.i) ∧ w'.cell? ⟨g, o + 3 + 2, none⟩ = some (.slice Ab b.ks.length cb)) ∧ (w'.cell? ⟨g, o + 6, none⟩ = some (.int .i64 d.k) ∧ w'.cell? ⟨g, o + 6 + 1, none⟩ = some (.int .i64 d.i) ∧ w'.cell? ⟨g, o + 6 + 2, none⟩ = some (.slice Ad d.ks.length cd)))))
      (first | exact ⟨F1.out.pb.cells.1, Ha.out, Hb.out, Hd.out⟩ | exact ⟨(F1.out.keep (alB _ _)).pb.cells.1, (Ha.out.keep (alB _ _) hgz), (Hb.out.keep (alB _ _) hgz), (Hd.out.keep (alB _ _) hgz)⟩ | exact ⟨((F1.out.keep (alB _ _)).keep (alB _ _)).pb.cells.1, ((Ha.out.keep (alB _ _) hgz).keep (alB _ _) (by simp; omega)), ((Hb.out.keep (alB _ _) hgz).keep (alB _ _) (by simp; omega)), ((Hd.out.keep (alB _ _) hgz).keep (alB _ _) (by simp; omega))⟩ | exact ⟨(((F1.out.keep (alB _ _)).keep (alB _ _)).keep (alB _ _)).pb.cells.1, (((Ha.out.keep (alB _ _) hgz).keep (alB _ _) (by simp; omega)).keep (alB _ _) (by simp; omega)), (((Hb.out.keep (alB _ _) hgz).keep (alB _ _) (by simp; omega)).keep (alB _ _) (by simp; omega)), (((Hd.out.keep (alB _ _) hgz).keep (alB _ _) (by simp; omega)).keep (alB _ _) (by simp; omega))⟩)
      (fail)
    all_goals go_wp2_with fail
    all_goals go_meet
    all_goals first
      | exact ⟨_, _, _, rfl, rfl, rfl, (((F0.out.push Ta.out (w.heap.size + 1 + 1) (by simp)).push Tb.out (w.heap.size + 1 + 1 + 1) (by simp)).push Td.out (w.heap.size + 1 + 1 + 1 + 1) (by simp)).drew.perm (by simp)⟩
      | exact ⟨_, _, _, rfl, rfl, rfl, (((F0.out.push Ta.out (w.heap.size + 1 + 1) (by simp)).push Td.out (w.heap.size + 1 + 1 + 1) (by simp)).push Tb.out (w.heap.size + 1 + 1 + 1 + 1) (by simp)).drew.perm (by simp)⟩
      | exact ⟨_, _, _, rfl, rfl, rfl, (((F0.out.push Tb.out (w.heap.size + 1 + 1) (by simp)).push Ta.out (w.heap.size + 1 + 1 + 1) (by simp)).push Td.out (w.heap.size + 1 + 1 + 1 + 1) (by simp)).drew.perm (by simp)⟩
      | exact ⟨_, _, _, rfl, rfl, rfl, (((F0.out.push Tb.out (w.heap.size + 1 + 1) (by simp)).push Td.out (w.heap.size + 1 + 1 + 1) (by simp)).push Ta.out (w.heap.size + 1 + 1 + 1 + 1) (by simp)).drew.perm (by simp)⟩
      | exact ⟨_, _, _, rfl, rfl, rfl, (((F0.out.push Td.out (w.heap.size + 1 + 1) (by simp)).push Ta.out (w.heap.size + 1 + 1 + 1) (by simp)).push Tb.out (w.heap.size + 1 + 1 + 1 + 1) (by simp)).drew.perm (by simp)⟩
      | exact ⟨_, _, _, rfl, rfl, rfl, (((F0.out.push Td.out (w.heap.size + 1 + 1) (by simp)).push Tb.out (w.heap.size + 1 + 1 + 1) (by simp)).push Ta.out (w.heap.size + 1 + 1 + 1 + 1) (by simp)).drew.perm (by simp)⟩
  case rest =>
    obtain ⟨na, nb, nd, rfl, rfl, rfl, hE⟩ := hcut
    have E := Lib.hid hE.drew
    clear hE F0 F1 Ha Hb Hd Ta Tb Td
    go_wp2_with fail
    go_region_held3 (fun w' => (w'.cell? ⟨na, 0, none⟩ = some (.int .i64 a.k) ∧ w'.cell? ⟨na, 1, none⟩ = some (.int .i64 a.i) ∧ w'.cell? ⟨na, 2, none⟩ = some (.slice Aa a.ks.length ca)) ∧ ((w'.cell? ⟨nb, 0, none⟩ = some (.int .i64 b.k) ∧ w'.cell? ⟨nb, 1, none⟩ = some (.int .i64 b.i) ∧ w'.cell? ⟨nb, 2, none⟩ = some (.slice Ab b.ks.length cb)) ∧ (w'.cell? ⟨nd, 0, none⟩ = some (.int .i64 d.k) ∧ w'.cell? ⟨nd, 1, none⟩ = some (.int .i64 d.i) ∧ w'.cell? ⟨nd, 2, none⟩ = some (.slice Ad d.ks.length cd))))
      (first | exact ⟨E.out.cells na a Aa ca (by simp), E.out.cells nb b Ab cb (by simp), E.out.cells nd d Ad cd (by simp)⟩ | exact ⟨(E.out.set _ _ _).cells na a Aa ca (by simp), (E.out.set _ _ _).cells nb b Ab cb (by simp), (E.out.set _ _ _).cells nd d Ad cd (by simp)⟩)
      (first
        | (go_at_call 76; refine (imp_any (RX w) b d Ab Ad cb cd _ E.out.hX (E.out.fr nb b Ab cb (by simp)) (E.out.fr nd d Ad cd (by simp))).mono ?_; rintro e5 w5 ⟨R0, r0, rfl, h5, hb5⟩; replace E := Lib.hid ((E.out.keep hb5).more h5); have f0 := E.out.froz 0; have f1 := E.out.froz 1; have f2 := E.out.froz 2; obtain ⟨u5, v5, y5, hr5⟩ := E.out.rb; obtain ⟨s0, s1, s2⟩ := hr5.cells; clear hb5 h5 hr5)
        | (go_at_call 76; refine (imp_any (RX w) a (impT b d) Aa R0 ca r0 _ E.out.hX (E.out.fr na a Aa ca (by simp)) (E.out.ft (impT b d) R0 r0 (by simp))).mono ?_; rintro e5 w5 ⟨R1, r1, rfl, h5, hb5⟩; replace E := Lib.hid ((E.out.keep hb5).more h5); have f0 := E.out.froz 0; have f1 := E.out.froz 1; have f2 := E.out.froz 2; obtain ⟨u5, v5, y5, hr5⟩ := E.out.rb; obtain ⟨s0, s1, s2⟩ := hr5.cells; clear hb5 h5 hr5)
        | (go_at_call 76; refine (imp_any (RX w) a b Aa Ab ca cb _ E.out.hX (E.out.fr na a Aa ca (by simp)) (E.out.fr nb b Ab cb (by simp))).mono ?_; rintro e5 w5 ⟨R2, r2, rfl, h5, hb5⟩; replace E := Lib.hid ((E.out.keep hb5).more h5); have f0 := E.out.froz 0; have f1 := E.out.froz 1; have f2 := E.out.froz 2; obtain ⟨u5, v5, y5, hr5⟩ := E.out.rb; obtain ⟨s0, s1, s2⟩ := hr5.cells; clear hb5 h5 hr5)
        | (go_at_call 76; refine (imp_any (RX w) a d Aa Ad ca cd _ E.out.hX (E.out.fr na a Aa ca (by simp)) (E.out.fr nd d Ad cd (by simp))).mono ?_; rintro e5 w5 ⟨R3, r3, rfl, h5, hb5⟩; replace E := Lib.hid ((E.out.keep hb5).more h5); have f0 := E.out.froz 0; have f1 := E.out.froz 1; have f2 := E.out.froz 2; obtain ⟨u5, v5, y5, hr5⟩ := E.out.rb; obtain ⟨s0, s1, s2⟩ := hr5.cells; clear hb5 h5 hr5)
        | (go_at_call 76; refine (imp_any (RX w) (impT a b) (impT a d) R2 R3 r2 r3 _ E.out.hX (E.out.ft (impT a b) R2 r2 (by simp)) (E.out.ft (impT a d) R3 r3 (by simp))).mono ?_; rintro e5 w5 ⟨R4, r4, rfl, h5, hb5⟩; replace E := Lib.hid ((E.out.keep hb5).more h5); have f0 := E.out.froz 0; have f1 := E.out.froz 1; have f2 := E.out.froz 2; obtain ⟨u5, v5, y5, hr5⟩ := E.out.rb; obtain ⟨s0, s1, s2⟩ := hr5.cells; clear hb5 h5 hr5)
        | (go_at_call 76; refine (imp_any (RX w) (impT a (impT b d)) (impT (impT a b) (impT a d)) R1 R4 r1 r4 _ E.out.hX (E.out.ft (impT a (impT b d)) R1 r1 (by simp)) (E.out.ft (impT (impT a b) (impT a d)) R4 r4 (by simp))).mono ?_; rintro e5 w5 ⟨R5, r5, rfl, h5, hb5⟩; replace E := Lib.hid ((E.out.keep hb5).more h5); have f0 := E.out.froz 0; have f1 := E.out.froz 1; have f2 := E.out.froz 2; obtain ⟨u5, v5, y5, hr5⟩ := E.out.rb; obtain ⟨s0, s1, s2⟩ := hr5.cells; clear hb5 h5 hr5))
    all_goals go_wp2_with fail
    all_goals
      obtain ⟨q0, q1, q2⟩ := (E.out.res (.int .i64 (impT (impT a (impT b d)) (impT (impT a b) (impT a d))).k) (.int .i64 (impT (impT a (impT b d)) (impT (impT a b) (impT a d))).i) (.slice R5 (impT (impT a (impT b d)) (impT (impT a b) (impT a d))).ks.length r5)).cells
      exact bodyPost_ret (v := .tuple #[.agg #[.int .i64 (impT (impT a (impT b d)) (impT (impT a b) (impT a d))).k, .int .i64 (impT (impT a (impT b d)) (impT (impT a b) (impT a d))).i, .slice R5 (impT (impT a (impT b d)) (impT (impT a b) (impT a d))).ks.length r5], .int .i64 0]) (by simp [results, Tryz.results38, go_sem, q0, q1, q2]) rfl ⟨R5, r5, rfl, ((E.out.ft (impT (impT a (impT b d)) (impT (impT a b) (impT a d))) R5 r5 (by simp)).set3 rfl _ _ _).isT, (E.out.set _ _ _).bel⟩
end Go.Proofs.YtgnfbhemkombaaaGreat
