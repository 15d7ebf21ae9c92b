/- no, args, term of the document's layer 3. -/
import Derived.Test.YtgnfbhemkombaaaDoorP23
import Derived.Test.YtgnfbhemkombaaaDoorE16
namespace Go.Proofs.YtgnfbhemkombaaaDoor
open Go.RowKit
set_option linter.unusedVariables false
set_option linter.unusedSimpArgs false
/-- block b is a box of what reading gave -/
def Box5 (w : World) (b : Nat) (x y z u v : Value) : Prop := w.heap[b]? = some (.cells #[x, y, z, u, v] 62 (0, 0))
theorem Box5.cells {w : World} {b : Nat} {x y z u v : Value} (h : Box5 w b x y z u v) : w.cell? ⟨b, 0, none⟩ = some x ∧ w.cell? ⟨b, 1, none⟩ = some y ∧ w.cell? ⟨b, 2, none⟩ = some z ∧ w.cell? ⟨b, 3, none⟩ = some u ∧ w.cell? ⟨b, 4, none⟩ = some v := by
  unfold Box5 at h
  simp [World.cell?, h]
theorem Box5.frozen {w : World} {b : Nat} {x y z u v : Value} (h : Box5 w b x y z u v) (o : Nat) : w.frozen? ⟨b, o, none⟩ = false := by
  unfold Box5 at h
  simp [World.frozen?, h]
theorem Box5.lt {w : World} {b : Nat} {x y z u v : Value} (h : Box5 w b x y z u v) : b < w.heap.size := (Array.getElem?_eq_some_iff.1 h).1
theorem Box5.keep {w w' : World} {b B : Nat} {x y z u v : Value} (h : Box5 w b x y z u v) (hb : Below B w w') (hB : b < B) : Box5 w' b x y z u v := (hb.block b hB).trans h
theorem Box5.grown {w w' : World} {b : Nat} {row : Option Nat} {x y z u v : Value} (h : Box5 w b x y z u v) (hg : w.grownBy w' row) (hne : some b ≠ row) : Box5 w' b x y z u v := (hg.block b h.lt hne).trans h
theorem Box5.set_other {w : World} {b : Nat} {x y z u v : Value} (h : Box5 w b x y z u v) (p : Addr) (q : Value) (hne : b ≠ p.block) : Box5 (w.setCell p q) b x y z u v := (heap_setCell_other w p q b hne).trans h
theorem Box5.new (w : World) (x y z u v : Value) : Box5 (w.alloc (.cells #[x, y, z, u, v] 62)) w.heap.size x y z u v := by
  show (w.heap.push _)[w.heap.size]? = _
  simp
theorem below_set5 {B b : Nat} {w w' : World} (h : Below B w w') (hb : B ≤ b) (x y z u v : Value) : Below B w (((((w'.setCell ⟨b, 0, none⟩ x).setCell ⟨b, 1, none⟩ y).setCell ⟨b, 2, none⟩ z).setCell ⟨b, 3, none⟩ u).setCell ⟨b, 4, none⟩ v) :=
  ((((h.setCell (p := ⟨b, 0, none⟩) hb _).setCell (p := ⟨b, 1, none⟩) hb _).setCell (p := ⟨b, 2, none⟩) hb _).setCell (p := ⟨b, 3, none⟩) hb _).setCell (p := ⟨b, 4, none⟩) hb _
theorem set5_other (w : World) (o k : Nat) (x y z u v : Value) (h : k ≠ o) : (((((w.setCell ⟨o, 0, none⟩ x).setCell ⟨o, 1, none⟩ y).setCell ⟨o, 2, none⟩ z).setCell ⟨o, 3, none⟩ u).setCell ⟨o, 4, none⟩ v).heap[k]? = w.heap[k]? := by
  rw [heap_setCell_other _ _ _ _ h, heap_setCell_other _ _ _ _ h, heap_setCell_other _ _ _ _ h, heap_setCell_other _ _ _ _ h, heap_setCell_other _ _ _ _ h]
theorem set5_size (w : World) (o : Nat) (x y z u v : Value) : (((((w.setCell ⟨o, 0, none⟩ x).setCell ⟨o, 1, none⟩ y).setCell ⟨o, 2, none⟩ z).setCell ⟨o, 3, none⟩ u).setCell ⟨o, 4, none⟩ v).heap.size = w.heap.size := by simp
/-- the value of what was not read -/
def noV (p : Nat) : Value := .agg #[.bool false, .int .i64 0, .int .i64 0, .slice none 0 0, .int .i64 (p : Int)]
def gotV (t : Tr) (A : Option Addr) (c p : Nat) : Value := .agg #[.bool true, .int .i64 t.k, .int .i64 t.i, .slice A t.ks.length c, .int .i64 (p : Int)]
/-- what reading answers -/
def GotP (w : World) (l : List Tok) (p : PR) (e : Ending) (w' : World) : Prop :=
  Below w.heap.size w w' ∧ match p with
    | .ok t r => ∃ A c p', Pos l r p' ∧ e = .returned (gotV t A c p') ∧ OwnT w' w.heap.size w'.heap.size t A c
    | .bad r => ∃ p', Pos l r p' ∧ e = .returned (noV p')
set_option maxHeartbeats 1000000 in
theorem rno_any (p : Nat) (w : World) : Calls Tryd.prog 98 #[.int .i64 (p : Int)] w fun e w' => e = .returned (.agg #[.bool false, .int .i64 0, .int .i64 0, .slice none 0 0, .int .i64 (p : Int)]) ∧ Below w.heap.size w w' := by
  obtain ⟨y0, y1, y2, y3, y4⟩ := (Box5.new w (.bool false) (.int .i64 0) (.int .i64 0) (.slice none 0 0) (.int .i64 (p : Int))).cells
  go_enter Tryd.func98, Tryd.ntmps98
  go_wp2_with fail
  exact bodyPost_ret (v := .agg #[.bool false, .int .i64 0, .int .i64 0, .slice none 0 0, .int .i64 (p : Int)]) (by simp [results, Tryd.results98, go_sem, y0, y1, y2, y3, y4]) rfl ⟨rfl, (Below.refl _ _).alloc (Nat.le_refl _) _⟩
def TermD (l : List Tok) (A : Option Addr) (c : Nat) (f : Nat) : Prop := ∀ (rest : List Tok) (p : Nat) (w : World), rest.length < f → Pos l rest p → IsToks w A c l →
  Calls Tryd.prog 100 #[.slice A l.length c, .int .i64 (p : Int)] w (GotP w l (termP f rest))
theorem Lay.keep {w wr wr' : World} {S base b : Nat} {x y : Value} {ts : List Tr} {A1 : Option Addr} {c1 : Nat} {cs : List (Option Addr × Nat)} (h : Lay w wr S base b x y ts A1 c1 cs) (hb : Below wr.heap.size wr wr') (hS : S ≤ wr.heap.size) : Lay w wr' S base b x y ts A1 c1 cs :=
  ⟨h.below.trans (hb.mono hS), h.len, h.box.keep hb h.box.lt, h.lo, h.lb, ownsRow_same (hi := wr.heap.size) h.own (fun k _ k2 => hb.block k k2) (fun g e => (h.own.lt g e).2),
    (OwnL.same _ _ (fun k _ k2 _ => hb.block k k2) (fun _ _ _ _ ha => ha) h.kids).widen hb.size⟩
theorem news5 (w : World) (o : Obj) (x y z : Value) (t : TypeId) (j : Nat) (u : Value) (h : [x, y, z][j]? = some u) : ((w.alloc o).alloc (.cells #[x, y, z] t)).cell? ((⟨w.heap.size + 1, 0, none⟩ : Addr).add j) = some u := news3 w o x y z t j u h
section
variable {A : Option Addr} {c : Nat} {l rest : List Tok} {p : Nat}
set_option maxHeartbeats 4000000 in
set_option maxRecDepth 100000 in
theorem rargs_any (f : Nat) (hT : TermD l A c f) (hl : l.length ≤ 8000) (k n : Nat) (w : World) (hf : rest.length ≤ f) (hp : Pos l rest p) (h : IsToks w A c l) :
    Calls Tryd.prog 68 #[.slice A l.length c, .int .i64 (p : Int), .agg #[.int .i64 (k : Int), .int .i64 (n : Int), .slice none 0 0]] w (GotP w l (argsP (termP f) k n rest)) := by
  have H := Lib.hid h
  have HT := Lib.hid hT
  have hpl := hp.le
  have HP := Lib.hid hp
  clear h hT hp
  obtain ⟨i0, hi, hz0, hz1, hzb⟩ := info_parts infoE
  have HI := Lib.hid (And.intro hi (And.intro hz0 (And.intro hz1 hzb)))
  clear hi hz0 hz1 hzb
  have e0 := Box3.new w (.int .i64 (k : Int)) (.int .i64 (n : Int)) (.slice none 0 0)
  have e1 := Box5.new (w.alloc (.cells #[.int .i64 (k : Int), .int .i64 (n : Int), .slice none 0 0] 24)) (.bool false) (.int .i64 0) (.int .i64 0) (.slice none 0 0) (.int .i64 0)
  rw [World.size_alloc] at e1
  have e0' := e0.keep ((Below.refl (w.heap.size + 1) _).alloc (by simp) (.cells #[.bool false, .int .i64 0, .int .i64 0, .slice none 0 0, .int .i64 0] 62)) (by omega)
  have hb0 : Below w.heap.size w ((w.alloc (.cells #[.int .i64 (k : Int), .int .i64 (n : Int), .slice none 0 0] 24)).alloc (.cells #[.bool false, .int .i64 0, .int .i64 0, .slice none 0 0, .int .i64 0] 62)) := ((Below.refl _ _).alloc (Nat.le_refl _) _).alloc (by simp) _
  have hsz0 : ((w.alloc (.cells #[.int .i64 (k : Int), .int .i64 (n : Int), .slice none 0 0] 24)).alloc (.cells #[.bool false, .int .i64 0, .int .i64 0, .slice none 0 0, .int .i64 0] 62)).heap.size = w.heap.size + 2 := by simp
  have E0 := Lib.hid e0'
  have E1 := Lib.hid e1
  have HB0 := Lib.hid hb0
  have HZ0 := Lib.hid hsz0
  have H0 := Lib.hid (H.out.keep hb0)
  clear e0 e1 e0' hb0 hsz0
  cases hs : stands 40 rest with
  | false =>
    have P := Lib.hid (show argsP (termP f) k n rest = .ok (.node k n []) rest by unfold argsP; rw [hs]; rfl)
    go_enter Tryd.func68, Tryd.ntmps68
    go_wp2_with fail
    refine (rsign_any 40 _ H0.out HP.out hl (by omega)).mono ?_
    rintro e w1 ⟨rfl, hb1⟩
    rw [hs]
    have hz1 := hb1.size
    rw [HZ0.out] at hz1
    have b3 := E0.out.keep hb1 (by rw [HZ0.out]; omega)
    have b5 := E1.out.keep hb1 (by rw [HZ0.out]; omega)
    obtain ⟨x0, x1, x2⟩ := b3.cells
    obtain ⟨y0, y1, y2, y3, y4⟩ := b5.cells
    have f0 := b5.frozen 0
    have f1 := b5.frozen 1
    have f2 := b5.frozen 2
    have f3 := b5.frozen 3
    have f4 := b5.frozen 4
    have BB := Lib.hid (HB0.out.trans (hb1.mono HB0.out.size))
    clear b3 b5 hb1
    go_wp2_with fail
    refine bodyPost_ret (v := gotV (.node k n []) none 0 p) (by simp [results, Tryd.results68, go_sem, gotV, Tr.k, Tr.i, Tr.ks, y0, y1, y2, y3, y4]) rfl ?_
    rw [P.out]
    refine ⟨below_set5 BB.out (Nat.le_succ _) _ _ _ _ _, none, 0, p, HP.out, rfl, ownT_leaf _ _ _ (by rw [set5_size]; omega) _ rfl⟩
  | true =>
    obtain ⟨x, r1, rfl, hx4, hx40⟩ := stands_cons hs
    have P := Lib.hid (show argsP (termP f) k n (x :: r1) = argsL (termP f) k n 4 [] r1 by unfold argsP; rw [if_pos hs]; rfl)
    simp only [List.length_cons] at hf
    have hpt := HP.out.lt
    go_enter Tryd.func68, Tryd.ntmps68
    go_wp2_with fail
    refine (rsign_any 40 _ H0.out HP.out hl (by omega)).mono ?_
    rintro e w1 ⟨rfl, hb1⟩
    rw [hs]
    have hz1 := hb1.size
    rw [HZ0.out] at hz1
    have B3 := Lib.hid (E0.out.keep hb1 (by rw [HZ0.out]; omega))
    have B5 := Lib.hid (E1.out.keep hb1 (by rw [HZ0.out]; omega))
    have BB := Lib.hid (HB0.out.trans (hb1.mono HB0.out.size))
    clear hb1 E0 E1 HB0 HZ0 H0
    go_wp2_with fail
    go_loopw [1, 7] (fun a i wr => ∃ (acc : List Tr) (r : List Tok) (p' : Nat) (A1 : Option Addr) (c1 : Nat) (cs : List (Option Addr × Nat)), a = .int .i64 (p' : Int) ∧ i = .int .i64 (acc.length : Int) ∧ acc.length < 4 ∧ Pos l r p' ∧ r.length < f ∧ argsP (termP f) k n (x :: r1) = argsL (termP f) k n (4 - acc.length) acc r ∧ Box5 wr (w.heap.size + 1) (.bool false) (.int .i64 0) (.int .i64 0) (.slice none 0 0) (.int .i64 0) ∧ Lay w wr w.heap.size (w.heap.size + 2) w.heap.size (.int .i64 (k : Int)) (.int .i64 (n : Int)) acc A1 c1 cs) (fun _ i _ => 4 - (intOf i).toNat)
    case atStart =>
      refine ⟨[], r1, p + 1, none, 0, [], by go_num, rfl, by simp, HP.out.tail, by omega, P.out, B5.out, ?_⟩
      exact ⟨BB.out, rfl, B3.out, Nat.le_refl _, by omega, by simpa [rowC] using World.ownsRow_nil _ _ _ _, by simp [OwnL]; omega⟩
    case round =>
      obtain ⟨acc, r, p', A1, c1, cs, rfl, rfl, ha4, hpr, hrf, hAC, hbx, hLay⟩ := hrel
      have AC := Lib.hid hAC
      have HB5 := Lib.hid hbx
      have HLY := Lib.hid hLay
      have HPR := Lib.hid hpr
      have hbr := hLay.below
      have hwr := hbr.size
      have hwr2 := hbx.lt
      have HTK := Lib.hid (H.out.keep (hbr.mono (Nat.le_refl _)))
      have hp'l := hpr.le
      clear hAC hbx hLay hpr P B3 B5 BB
      have h4' : (acc.length : Int) < 4 := by omega
      have TC := Lib.hid (HT.out r p' wr hrf HPR.out HTK.out)
      cases hP : termP f r with
      | bad r' =>
        rw [hP] at TC
        have R := Lib.hid (show argsP (termP f) k n (x :: r1) = .bad r' by rw [AC.out, show 4 - acc.length = (3 - acc.length) + 1 by omega]; simp only [argsL, hP])
        go_wp2_with fail
        refine TC.out.mono ?_
        rintro e w2 ⟨hb2, p2, hp2, rfl⟩
        unfold noV
        have bz : ∀ o, Box5 (w2.alloc o) (w.heap.size + 1) (.bool false) (.int .i64 0) (.int .i64 0) (.slice none 0 0) (.int .i64 0) := fun o => (HB5.out.keep hb2 HB5.out.lt).keep ((Below.refl w2.heap.size w2).alloc (Nat.le_refl _) o) (by have := hb2.size; omega)
        have y0 := fun o => (bz o).cells.1
        have y1 := fun o => (bz o).cells.2.1
        have y2 := fun o => (bz o).cells.2.2.1
        have y3 := fun o => (bz o).cells.2.2.2.1
        have y4 := fun o => (bz o).cells.2.2.2.2
        have f0 := fun o => (bz o).frozen 0
        have f1 := fun o => (bz o).frozen 1
        have f2 := fun o => (bz o).frozen 2
        have f3 := fun o => (bz o).frozen 3
        have f4 := fun o => (bz o).frozen 4
        have BW := Lib.hid (fun o => ((hbr.trans (hb2.mono hbr.size)).alloc (Nat.le_trans hbr.size hb2.size) o))
        clear bz
        go_wp2_with fail
        refine bodyPost_ret (v := noV p2) (by simp [results, Tryd.results68, go_sem, noV, y0, y1, y2, y3, y4]) rfl ?_
        rw [R.out]
        exact ⟨below_set5 (BW.out _) (Nat.le_succ _) _ _ _ _ _, p2, hp2, rfl⟩
      | ok q r2 =>
        rw [hP] at TC
        have hwi := termP_within f r
        rw [hP] at hwi
        have hr2 : r2.length < r.length := hwi.2
        have R := Lib.hid (show argsP (termP f) k n (x :: r1) = if stands 41 r2 then .ok (.node k n (acc ++ [q])) r2.tail else if acc.length = 3 ∨ stands 44 r2 = false then .bad r2 else argsL (termP f) k n (4 - (acc ++ [q]).length) (acc ++ [q]) r2.tail by
          rw [AC.out, show 4 - acc.length = (3 - acc.length) + 1 by omega]
          simp only [argsL, hP]
          rw [show 4 - (acc ++ [q]).length = 3 - acc.length by rw [List.length_append]; simp only [List.length_cons, List.length_nil]; omega]
          have e3 : (3 - acc.length = 0) ↔ (acc.length = 3) := by omega
          simp only [e3])
        clear hwi
        go_wp2_with fail
        refine TC.out.mono ?_
        rintro e w2 ⟨hb2, A2, c2, p2, hp2, rfl, ho⟩
        unfold gotV
        have hs2 := hb2.size
        have bx : Box3 w2 w.heap.size (.int .i64 (k : Int)) (.int .i64 (n : Int)) (.slice A1 acc.length c1) := HLY.out.box.keep hb2 HLY.out.box.lt
        have bx2 : ∀ o, (w2.alloc o).cell? ⟨w.heap.size, 2, none⟩ = some (.slice A1 acc.length c1) := fun o => (((Below.refl w2.heap.size w2).alloc (Nat.le_refl _) o).cell bx.lt).trans bx.cells.2.2
        have own1 := Lib.hid (ownsRow_same (hi := wr.heap.size) HLY.out.own (fun k k1 k2 => hb2.block k k2) (fun g e => (HLY.out.own.lt g e).2))
        have OWN := Lib.hid (fun o o' => (own1.out.alloc o).alloc o')
        have BX := Lib.hid bx
        have HO := Lib.hid ho
        have HB2 := Lib.hid hb2
        have HB5' := Lib.hid (HB5.out.keep hb2 HB5.out.lt)
        have OB := Lib.hid (fun g e => (HLY.out.own.lt g e))
        have hbig2 : w.heap.size + 1 < w2.heap.size := by omega
        have STEP := Lib.hid (fun (wx w4 : World) => @Lay.stepG w wr w2 wx w4 _ _ _ _ _ acc q A1 c1 cs HLY.out HB2.out A2 c2 HO.out)
        have HP2 := Lib.hid hp2
        have hp2l := hp2.le
        clear bx ho hb2 own1 hp2 TC
        go_wp2_with (at_builtin; refine wpList_append_lies _ (by rfl) _ _ _ (by rfl) (w.heap.size + 2) 24 i0 _ 3 40 Tryd.underlying22 HI.out.1 HI.out.2.1 HI.out.2.2.1 HI.out.2.2.2 (by rfl) (by omega) (.slice A1 acc.length c1) acc.length (rowC acc cs) (by rfl) (by exact OWN.out _ _) ⟨w2.heap.size + 1, 0, none⟩ 1 1 [.int .i64 q.k, .int .i64 q.i, .slice A2 q.ks.length c2] (by rfl) (by rfl) (by exact news3 _ _ _ _ _ _) (by simp [Value.oneCell']) (by omega) (by unfold maxLen; omega) (by omega) (by simp; omega) (w2.heap.size + 2) (by simp) ?_; intro g cap4 w4 hown4 hgrow hat hlt4; have bx4 := Lib.hid (Box3.grown (w := (w2.alloc (.cells #[.bool true, .int .i64 q.k, .int .i64 q.i, .slice A2 q.ks.length c2, .int .i64 (p2 : Int)] 62)).alloc (.cells #[.int .i64 q.k, .int .i64 q.i, .slice A2 q.ks.length c2] 24)) ((BX.out.keep ((Below.refl (w.heap.size + 2) w2).alloc (by omega) _) (by omega)).keep ((Below.refl (w.heap.size + 2) _).alloc (by simp; omega) _) (by omega)) hgrow (fun e => by have := OB.out _ e.symm; omega)); have c4 : w4.cell? ⟨w.heap.size, 2, none⟩ = some (.slice A1 acc.length c1) := bx4.out.cells.2.2; have f4 : w4.frozen? ⟨w.heap.size, 2, none⟩ = false := bx4.out.frozen 2; have tb : ∀ v, (w4.setCell ⟨w.heap.size, 2, none⟩ v).cell? ⟨w2.heap.size, 4, none⟩ = some (.int .i64 (p2 : Int)) := fun v => (Box5.set_other (Box5.grown ((Box5.new w2 (.bool true) (.int .i64 q.k) (.int .i64 q.i) (.slice A2 q.ks.length c2) (.int .i64 (p2 : Int))).keep ((Below.refl (w2.heap.size + 1) _).alloc (by simp) (.cells #[.int .i64 q.k, .int .i64 q.i, .slice A2 q.ks.length c2] 24)) (by omega)) hgrow (fun e => by have := OB.out _ e.symm; omega)) ⟨w.heap.size, 2, none⟩ v (by show w2.heap.size ≠ w.heap.size; omega)).cells.2.2.2.2; have HO4 := Lib.hid hown4; have HG4 := Lib.hid hgrow; have HAT := Lib.hid hat; clear hown4 hgrow hat)
        have hwx : Below w2.heap.size w2 ((w2.alloc (.cells #[.bool true, .int .i64 q.k, .int .i64 q.i, .slice A2 q.ks.length c2, .int .i64 (p2 : Int)] 62)).alloc (.cells #[.int .i64 q.k, .int .i64 q.i, .slice A2 q.ks.length c2] 24)) := ((Below.refl _ _).alloc (Nat.le_refl _) _).alloc (by simp) _
        have NL := Lib.hid (STEP.out _ w4 hwx HO4.out HG4.out (by have := HAT.out; simpa using this))
        have rb := Lib.hid (Box5.set_other (Box5.grown ((HB5'.out.keep ((Below.refl w2.heap.size w2).alloc (Nat.le_refl _) _) (by omega)).keep ((Below.refl (w2.heap.size + 1) _).alloc (by simp) _) (by omega)) HG4.out (fun e => by have := OB.out _ e.symm; omega)) ⟨w.heap.size, 2, none⟩ (.slice (some ⟨g, 0, none⟩) (acc.length + 1) cap4) (by show w.heap.size + 1 ≠ w.heap.size; omega))
        clear hwx tb c4 f4 bx4 HO4 HG4 HAT STEP BX HO HB2 HB5' OWN bx2 HLY HB5 OB HTK
        generalize w4.setCell ⟨w.heap.size, 2, none⟩ (.slice (some ⟨g, 0, none⟩) (acc.length + 1) cap4) = W5 at NL rb ⊢
        have bel5 := NL.out.below
        have hw5 := rb.out.lt
        have T5 := Lib.hid (H.out.keep (bel5.mono (Nat.le_refl _)))
        refine (rsign_any 41 _ T5.out HP2.out hl (by omega)).mono ?_
        rintro e w6 ⟨rfl, hb6⟩
        have NL6 := Lib.hid (NL.out.keep hb6 bel5.size)
        have rb6 := Lib.hid (rb.out.keep hb6 rb.out.lt)
        have T6 := Lib.hid (T5.out.keep hb6)
        have bel6 := NL6.out.below
        have hw6 := rb6.out.lt
        clear hb6 NL rb T5
        cases h41 : stands 41 r2 with
        | true =>
          have R1 := Lib.hid (show argsP (termP f) k n (x :: r1) = .ok (.node k n (acc ++ [q])) r2.tail by rw [R.out, if_pos h41])
          have PP := Lib.hid (show Pos l r2.tail (p2 + 1) by obtain ⟨y, r3, rfl, _, _⟩ := stands_cons h41; exact HP2.out.tail)
          have DN := Lib.hid (show OwnT w6 (w.heap.size + 2) w6.heap.size (.node k n (acc ++ [q])) (some ⟨g, 0, none⟩) cap4 from Lay.done (t := .node k n (acc ++ [q])) NL6.out)
          obtain ⟨x0, x1, x2⟩ := NL6.out.box.cells
          obtain ⟨y0, y1, y2, y3, y4⟩ := rb6.out.cells
          have f0 := rb6.out.frozen 0
          have f1 := rb6.out.frozen 1
          have f2 := rb6.out.frozen 2
          have f3 := rb6.out.frozen 3
          have f4 := rb6.out.frozen 4
          have el : (acc ++ [q]).length = acc.length + 1 := by simp
          clear R
          rw [el] at x2
          go_wp2_with fail
          refine bodyPost_ret (v := gotV (.node k n (acc ++ [q])) (some ⟨g, 0, none⟩) cap4 (p2 + 1)) (by simp [results, Tryd.results68, go_sem, gotV, Tr.k, Tr.i, Tr.ks, y0, y1, y2, y3, y4]) rfl ?_
          rw [R1.out]
          refine ⟨below_set5 bel6 (Nat.le_succ _) _ _ _ _ _, _, cap4, p2 + 1, PP.out, rfl, ?_⟩
          exact ((OwnT.same _ (fun b h1 h2 => set5_other _ _ _ _ _ _ _ _ (by omega)) DN.out).widen (by rw [set5_size]; exact Nat.le_refl _)).lower (by omega)
        | false =>
          rw [h41] at R
          by_cases h3 : acc.length = 3
          · have R1 := Lib.hid (show argsP (termP f) k n (x :: r1) = .bad r2 by rw [R.out, if_neg (by simp), if_pos (.inl h3)])
            have h3' : ((acc.length : Int) == 3) = true := by simp [h3]
            clear R h3
            go_wp2_with fail
            refine (rno_any p2 _).mono ?_
            rintro e w7 ⟨rfl, hb7⟩
            have bz := rb6.out.keep hb7 hw6
            obtain ⟨y0, y1, y2, y3, y4⟩ := bz.cells
            have f0 := bz.frozen 0
            have f1 := bz.frozen 1
            have f2 := bz.frozen 2
            have f3 := bz.frozen 3
            have f4 := bz.frozen 4
            have BW := Lib.hid (bel6.trans (hb7.mono bel6.size))
            clear bz hb7
            go_wp2_with fail
            refine bodyPost_ret (v := noV p2) (by simp [results, Tryd.results68, go_sem, noV, y0, y1, y2, y3, y4]) rfl ?_
            rw [R1.out]
            exact ⟨below_set5 BW.out (Nat.le_succ _) _ _ _ _ _, p2, HP2.out, rfl⟩
          · have h3' : ((acc.length : Int) == 3) = false := by rw [beq_eq_false_iff_ne]; omega
            have ha3 : acc.length < 3 := by omega
            clear h3
            cases h44 : stands 44 r2 with
            | false =>
              have R1 := Lib.hid (show argsP (termP f) k n (x :: r1) = .bad r2 by rw [R.out, if_neg (by simp), if_pos (.inr h44)])
              clear R
              go_wp2_with fail
              refine (rsign_any 44 _ T6.out HP2.out hl (by omega)).mono ?_
              rintro e w8 ⟨rfl, hb8⟩
              rw [h44]
              have rb8 := Lib.hid (rb6.out.keep hb8 hw6)
              have bel8 := Lib.hid (bel6.trans (hb8.mono bel6.size))
              clear hb8
              go_wp2_with fail
              refine (rno_any p2 _).mono ?_
              rintro e w7 ⟨rfl, hb7⟩
              have bz := rb8.out.keep hb7 rb8.out.lt
              obtain ⟨y0, y1, y2, y3, y4⟩ := bz.cells
              have f0 := bz.frozen 0
              have f1 := bz.frozen 1
              have f2 := bz.frozen 2
              have f3 := bz.frozen 3
              have f4 := bz.frozen 4
              have BW := Lib.hid (bel8.out.trans (hb7.mono bel8.out.size))
              clear bz hb7
              go_wp2_with fail
              refine bodyPost_ret (v := noV p2) (by simp [results, Tryd.results68, go_sem, noV, y0, y1, y2, y3, y4]) rfl ?_
              rw [R1.out]
              exact ⟨below_set5 BW.out (Nat.le_succ _) _ _ _ _ _, p2, HP2.out, rfl⟩
            | true =>
              have R1 := Lib.hid (show argsP (termP f) k n (x :: r1) = argsL (termP f) k n (4 - (acc ++ [q]).length) (acc ++ [q]) r2.tail by rw [R.out, if_neg (by simp), if_neg (by rintro (a | a); omega; rw [h44] at a; cases a)])
              have PP := Lib.hid (show Pos l r2.tail (p2 + 1) by obtain ⟨y, r3, rfl, _, _⟩ := stands_cons h44; exact HP2.out.tail)
              have hr3 : r2.tail.length ≤ r2.length := by simp
              clear R
              go_wp2_with fail
              refine (rsign_any 44 _ T6.out HP2.out hl (by omega)).mono ?_
              rintro e w8 ⟨rfl, hb8⟩
              rw [h44]
              have rb8 := Lib.hid (rb6.out.keep hb8 hw6)
              have NL8 := Lib.hid (NL6.out.keep hb8 bel6.size)
              clear hb8
              go_wp2_with fail
              go_roundw
              case rel => exact ⟨acc ++ [q], r2.tail, p2 + 1, _, _, _, by go_num, by simp, by simp; omega, PP.out, by omega, R1.out, rb8.out, NL8.out⟩
              case measure => simp [intOf]; omega
end
end Go.Proofs.YtgnfbhemkombaaaDoor
