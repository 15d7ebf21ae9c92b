/- Alike of the document's layer 5. -/
import Derived.Test.YtfdggmmibgbfnaaA1
import Derived.Test.YtfdggmmibgbfnaaF1
import Derived.Test.YtfdggmmibgbfnaaLK
import Derived.Laws.AppendOwnNone
import Derived.Maps.AppendAt
import Derived.Deep.RegionHeld3
import Derived.Deep.DeepCutAuto
import Derived.Deep.Onto
namespace Go.Proofs.Ytfdggmmibgbfnaa
open Go.RowKit
set_option linter.unusedVariables false
set_option linter.unusedSimpArgs false
theorem infoI : (Try.prog.info? 3).map (fun i => (i.zero, i.size, i.bytes)) = some (some (.int .i64 0), 1, 8) := by kernel_rfl
def zcells (zs : List Int) : List Value := zs.map (Value.int .i64)
/-- numbers put behind what is owned, the slice that they come from nil or not -/
theorem append_rdI {w : World} {ops : Array Oper} {rest : List Oper} {o : Oper} {a : Act} {Q : Exit → Act → World → Prop} (hgd : o.guard = none) (s x : Operand)
    (ho : o.op = .call { callee := .builtin .append, args := #[s, x], argTypes := #[123, 123] })
    (base : Nat) (v : Value) (n : Nat) (xs : List Value) (hs : a.eval s = v) (hown : w.ownsRow base 3 1 v n xs) (B : Nat) (A : Option Addr) (m c : Nat) (zs : List Int)
    (hx : a.eval x = .slice A m c) (hnone : A = none → m = 0 ∧ c = 0) (hr : Rd .i64 w B A zs) (hl : zs.length = m) (hsum : n + m ≤ 2000) (hbase : base ≤ w.heap.size)
    (h : ∀ v' w', w'.ownsRow base 3 1 v' (n + m) (xs ++ zcells zs) → w.grownBy w' v.ownBlock → (v'.ownBlock = v.ownBlock ∨ v'.ownBlock = some w.heap.size) → wpList Try.prog ops Q rest (a.put o.dst v') w') : wpList Try.prog ops Q (o :: rest) a w := by
  obtain ⟨i0, hi, hz0, hz1, hz2⟩ := info_parts infoI
  cases A with
  | none =>
    obtain ⟨rfl, rfl⟩ := hnone rfl
    have e : zs = [] := List.eq_nil_of_length_eq_zero hl
    subst e
    refine wpList_append_own_none hgd s x _ ho base 3 i0 1 Try.underlying123 hi v n xs hs hown hx ?_
    exact h v w (by simpa [zcells] using hown) (World.grownBy.refl w _) (.inl rfl)
  | some ad =>
    refine wpList_append_own_at w hgd s x _ ho base 3 i0 (.int .i64 0) 1 8 Try.underlying123 hi hz0 hz1 hz2 rfl (by decide) v n xs hs hown ad m c (zcells zs) hx (by unfold zcells; rw [List.length_map, hl]; omega) (fun j u hu => ?_) (fun u hu => ?_) (by unfold maxLen; omega) (by omega) hbase ?_
    · unfold zcells at hu
      rw [List.getElem?_map] at hu
      obtain ⟨z, hz, rfl⟩ := Option.map_eq_some_iff.1 hu
      obtain ⟨hj, hz'⟩ := List.getElem?_eq_some_iff.1 hz
      obtain ⟨ad', e, _, hc⟩ := hr.at j hj
      cases e
      rw [hc, hz']
    · unfold zcells at hu
      obtain ⟨z, _, rfl⟩ := List.mem_map.1 hu
      rfl
    · intro v' w' h1 h2 _ h4
      exact h v' w' h1 h2 h4
/-- a list that is owned, read as numbers -/
theorem rd_own {w : World} {base : Nat} {v : Value} {n : Nat} {zs : List Int} (h : w.ownsRow base 3 1 v n (zcells zs)) : ∃ A cap, v = .slice A n cap ∧ zs.length = n ∧ Rd .i64 w w.heap.size A zs ∧ (A = none → n = 0 ∧ cap = 0) := by
  have hl : zs.length = n := by have := h.1; unfold zcells at this; rw [List.length_map] at this; omega
  rcases h.2 with ⟨rfl, rfl⟩ | ⟨g, cap, cur, rfl, hb, hg, hn, _⟩
  · exact ⟨none, 0, rfl, hl, by rw [List.eq_nil_of_length_eq_zero hl]; exact Rd.nil _ _ _ _, fun _ => ⟨rfl, rfl⟩⟩
  · refine ⟨_, cap, rfl, hl, fun j hj => ⟨⟨g, 0, none⟩, rfl, (h.lt g rfl).2, ?_⟩, fun e => by cases e⟩
    have := h.cellAt j (by omega)
    have e2 : (⟨g, 0, none⟩ : Addr).add j = ⟨g, j, none⟩ := by unfold Addr.add; split <;> simp_all
    rw [e2, this]
    unfold zcells
    rw [List.getElem?_map, List.getElem?_eq_getElem hj, List.getD_eq_getElem?_getD, List.getElem?_eq_getElem hj]
    rfl
theorem below_al (w : World) (o : Obj) : Below w.heap.size w (w.alloc o) := (Below.refl _ _).alloc (Nat.le_refl _) _
theorem own_empty (w : World) : (w.alloc (.cells #[] 3)).ownsRow w.heap.size 3 1 (.slice (some ⟨w.heap.size, 0, none⟩) 0 0) 0 [] := by
  refine ⟨rfl, .inr ⟨w.heap.size, 0, #[], rfl, Nat.le_refl _, ?_, Nat.le_refl _, by unfold maxLen; omega, rfl, rfl⟩⟩
  show (w.heap.push _)[w.heap.size]? = _
  simp
/-- what Alike holds -/
structure AK (w W : World) (a b : Tr) (A A' : Option Addr) (c c' : Nat) (xs ys : List Int) (X Y : Option Addr) : Prop where
  two : Two w W a b A A' c c'
  rx : Rd .i64 W W.heap.size X xs
  ry : Rd .i64 W W.heap.size Y ys
theorem AK.keep {w W W' : World} {a b : Tr} {A A' : Option Addr} {c c' : Nat} {xs ys : List Int} {X Y : Option Addr} (h : AK w W a b A A' c c' xs ys X Y) (hb : Below W.heap.size W W') : AK w W' a b A A' c c' xs ys X Y :=
  ⟨h.two.keep hb, (h.rx.keep hb (Nat.le_refl _)).keep (Below.refl _ _) hb.size, (h.ry.keep hb (Nat.le_refl _)).keep (Below.refl _ _) hb.size⟩
theorem rd_slice {W : World} {base : Nat} {P : Option Addr} {n n' cp : Nat} {zs : List Int} (h : W.ownsRow base 3 1 (.slice P n cp) n' (zcells zs)) : Rd .i64 W W.heap.size P zs ∧ (P = none → n = 0 ∧ cp = 0) := by
  obtain ⟨A, cap, e, _, hr, hn⟩ := rd_own h
  cases e
  exact ⟨hr, hn⟩
/-- two lists of one's own, apart -/
structure PQ (w W0 W : World) (a b : Tr) (A A' : Option Addr) (c c' : Nat) (pv qv : Value) (ps qs : List Int) : Prop where
  two0 : Two w W0 a b A A' c c'
  op : W.ownsRow W0.heap.size 3 1 pv ps.length (zcells ps)
  oq : W.ownsRow W0.heap.size 3 1 qv qs.length (zcells qs)
  ap : ∀ g, pv.ownBlock = some g → qv.ownBlock ≠ some g
  below : Below W0.heap.size W0 W
theorem PQ.two {w W0 W : World} {a b : Tr} {A A' : Option Addr} {c c' : Nat} {pv qv : Value} {ps qs : List Int} (h : PQ w W0 W a b A A' c c' pv qv ps qs) : Two w W a b A A' c c' := h.two0.keep h.below
theorem PQ.keep {w W0 W W' : World} {a b : Tr} {A A' : Option Addr} {c c' : Nat} {pv qv : Value} {ps qs : List Int} (h : PQ w W0 W a b A A' c c' pv qv ps qs) (hb : Below W.heap.size W W') : PQ w W0 W' a b A A' c c' pv qv ps qs :=
  ⟨h.two0, ownsRow_same (hi := W.heap.size) h.op (fun k _ k2 => hb.block k k2) (fun g e => (h.op.lt g e).2), ownsRow_same (hi := W.heap.size) h.oq (fun k _ k2 => hb.block k k2) (fun g e => (h.oq.lt g e).2), h.ap, h.below.trans (hb.mono h.below.size)⟩
theorem grown_from {W0 W W' w4 : World} {v : Value} {n m : Nat} {xs : List Value} (hb : Below W0.heap.size W0 W) (ho : W.ownsRow W0.heap.size 3 1 v n xs) (hx : Below W.heap.size W W') (hg : W'.grownBy w4 v.ownBlock) : Below W0.heap.size W0 w4 := by
  refine (hb.trans (hx.mono hb.size)).trans ⟨hg.os, hg.tape, hg.output, hg.size, fun k hk => hg.block k ?_ (fun e => ?_)⟩
  · have := hb.size; have := hx.size; omega
  · have := (ho.lt k e.symm).1
    omega
theorem own_far {W0 W W' w4 : World} {v v' : Value} {n m : Nat} {xs ys : List Value} (ho : W.ownsRow W0.heap.size 3 1 v n xs) (ho' : W.ownsRow W0.heap.size 3 1 v' m ys) (hx : Below W.heap.size W W') (hg : W'.grownBy w4 v'.ownBlock) (ap : ∀ g, v.ownBlock = some g → v'.ownBlock ≠ some g) : w4.ownsRow W0.heap.size 3 1 v n xs := by
  obtain ⟨h1, h2⟩ := ho
  refine ⟨h1, ?_⟩
  rcases h2 with h2 | ⟨g, cap, cur, rfl, hb, hc, h3⟩
  · exact .inl h2
  · have hlt : g < W.heap.size := (Array.getElem?_eq_some_iff.1 hc).1
    have hz := hx.size
    refine .inr ⟨g, cap, cur, rfl, hb, ?_, h3⟩
    rw [hg.block g (by omega) (fun e => ap g rfl e.symm), hx.block g hlt]
    exact hc
theorem PQ.pushP {w W0 W Wx w4 : World} {a b : Tr} {A A' : Option Addr} {c c' : Nat} {pv qv : Value} {ps qs : List Int} {z : Int} {g cap : Nat} (h : PQ w W0 W a b A A' c c' pv qv ps qs) (hx : Below W.heap.size W Wx) (hown : w4.ownsRow W0.heap.size 3 1 (.slice (some ⟨g, 0, none⟩) (ps.length + 1) cap) (ps.length + 1) (zcells ps ++ [.int .i64 z])) (hg : Wx.grownBy w4 pv.ownBlock) (hat : pv.ownBlock = some g ∨ g = Wx.heap.size) :
    PQ w W0 w4 a b A A' c c' (.slice (some ⟨g, 0, none⟩) (ps.length + 1) cap) qv (ps ++ [z]) qs := by
  refine ⟨h.two0, ?_, own_far h.oq h.op hx hg (fun g e e' => h.ap g e' e), fun g' e e' => ?_, grown_from (m := 0) h.below h.op hx hg⟩
  · simpa [zcells] using hown
  · obtain rfl : g = g' := by simpa [Value.ownBlock] using e
    rcases hat with h1 | h1
    · exact h.ap g h1 e'
    · have := (h.oq.lt g e').2
      have := hx.size
      omega
theorem PQ.pushQ {w W0 W Wx w4 : World} {a b : Tr} {A A' : Option Addr} {c c' : Nat} {pv qv : Value} {ps qs : List Int} {z : Int} {g cap : Nat} (h : PQ w W0 W a b A A' c c' pv qv ps qs) (hx : Below W.heap.size W Wx) (hown : w4.ownsRow W0.heap.size 3 1 (.slice (some ⟨g, 0, none⟩) (qs.length + 1) cap) (qs.length + 1) (zcells qs ++ [.int .i64 z])) (hg : Wx.grownBy w4 qv.ownBlock) (hat : qv.ownBlock = some g ∨ g = Wx.heap.size) :
    PQ w W0 w4 a b A A' c c' pv (.slice (some ⟨g, 0, none⟩) (qs.length + 1) cap) ps (qs ++ [z]) := by
  refine ⟨h.two0, own_far h.op h.oq hx hg h.ap, ?_, fun g' e e' => ?_, grown_from (m := 0) h.below h.oq hx hg⟩
  · simpa [zcells] using hown
  · obtain rfl : g = g' := by simpa [Value.ownBlock] using e'
    rcases hat with h1 | h1
    · exact h.ap g e h1
    · have := (h.op.lt g e).2
      have := hx.size
      omega
theorem news1i (w : World) (x : Value) (t : TypeId) (j : Nat) (u : Value) (h : [x][j]? = some u) : (w.alloc (.cells #[x] t)).cell? ((⟨w.heap.size, 0, none⟩ : Addr).add j) = some u := by
  have e2 : (⟨w.heap.size, 0, none⟩ : Addr).add j = ⟨w.heap.size, j, none⟩ := by unfold Addr.add; split <;> simp_all
  rw [e2, cell_new3]
  simpa using h
theorem grown_below1 {W w' : World} {o : Obj} {n c : Nat} (hg : (W.alloc o).grownBy w' (Value.slice (some ⟨W.heap.size, 0, none⟩) n c).ownBlock) : Below W.heap.size W w' := by
  refine (below_al W o).trans ⟨hg.os, hg.tape, hg.output, hg.size, fun k hk => hg.block k (by simp; omega) (fun e => ?_)⟩
  simp [Value.ownBlock] at e
  omega
theorem PQ.start {w W0 w1 w2 : World} {a b : Tr} {A A' : Option Addr} {c c' : Nat} {v1 v2 : Value} {xs ys : List Int} (ht : Two w W0 a b A A' c c') (h1 : Below W0.heap.size W0 w1) (h2 : Below w1.heap.size w1 w2) (o1 : w1.ownsRow W0.heap.size 3 1 v1 xs.length (zcells xs)) (o2 : w2.ownsRow w1.heap.size 3 1 v2 ys.length (zcells ys)) : PQ w W0 w2 a b A A' c c' v1 v2 xs ys := by
  refine ⟨ht, ownsRow_same (hi := w1.heap.size) o1 (fun k _ k2 => h2.block k k2) (fun g e => (o1.lt g e).2), ?_, fun g e e' => ?_, h1.trans (h2.mono h1.size)⟩
  · obtain ⟨e1, e2⟩ := o2
    refine ⟨e1, ?_⟩
    have := h1.size
    rcases e2 with e2 | ⟨g, cap, cur, e, hb, h⟩
    · exact .inl e2
    · exact .inr ⟨g, cap, cur, e, by omega, h⟩
  · have q1 := (o1.lt g e).2
    have q2 := (o2.lt g e').1
    omega
set_option maxHeartbeats 8000000 in
set_option maxRecDepth 100000 in
theorem alike_any : ∀ (N : Nat) (a b : Tr) (A A' : Option Addr) (c c' : Nat) (xs ys : List Int) (X Y : Option Addr) (nx ny cx cy : Nat) (w : World), a.sz ≤ N → IsT w w.heap.size a A c → IsT w w.heap.size b A' c' → xs.length = nx → ys.length = ny → (X = none → nx = 0 ∧ cx = 0) → (Y = none → ny = 0 ∧ cy = 0) → nx + a.dp ≤ 200 → ny + a.dp ≤ 200 → Rd .i64 w w.heap.size X xs → Rd .i64 w w.heap.size Y ys →
    Calls Try.prog 55 #[.agg #[.int .i64 a.k, .int .i64 a.i, .slice A a.ks.length c], .agg #[.int .i64 b.k, .int .i64 b.i, .slice A' b.ks.length c'], .slice X nx cx, .slice Y ny cy] w fun e w' => e = .returned (.bool (alikeT a b xs ys)) ∧ Below w.heap.size w w' := by
  intro N
  induction N with
  | zero => intro a b A A' c c' xs ys X Y nx ny cx cy w h; have := sz_pos a; omega
  | succ N ih =>
    intro a b A A' c c' xs ys X Y nx ny cx cy w hN ha hb hxl hyl hxn hyn hxd hyd hrx hry
    have IH := Lib.hid ih
    have T0 := two_start ha hb
    have K0 := Lib.hid (AK.mk T0 ((hrx.keep T0.below (Nat.le_refl _)).keep (Below.refl _ _) T0.below.size) ((hry.keep T0.below (Nat.le_refl _)).keep (Below.refl _ _) T0.below.size) : AK w _ a b A A' c c' xs ys X Y)
    have AT := Lib.hid (alikeT_eq a b xs ys)
    have la := ha.len
    have lb := hb.len
    have XL := Lib.hid hxl
    have YL := Lib.hid hyl
    have XN := Lib.hid hxn
    have YN := Lib.hid hyn
    have dpa := dp_pos a
    clear ih ha hb hxl hyl hxn hyn hrx hry
    have b0 := T0.b0
    have b1 := T0.b1
    have b2 := T0.b2
    have d0 := T0.d0
    have d1 := T0.d1
    have d2 := T0.d2
    clear T0
    by_cases hk : a.k = b.k
    · have hk' : (a.k != b.k) = false := by simp [hk]
      by_cases hn : a.ks.length = b.ks.length
      · have hn' : ((a.ks.length : Int) != (b.ks.length : Int)) = false := by simp [hn]
        rw [decide_eq_true hk, decide_eq_true hn] at AT
        simp only [Bool.true_and] at AT
        by_cases h1 : a.k = 1
        · have h1' : (a.k == 1) = true := by simp [h1]
          rw [if_pos h1] at AT
          clear hk h1 hn
          go_enter Try.func55, Try.ntmps55
          go_wp2_with fail
          refine (place_any xs X nx cx a.i _ XL.out (by omega) (by exact K0.out.rx)).mono ?_
          rintro e w1 ⟨rfl, hb1⟩
          have K1 := Lib.hid (K0.out.keep hb1)
          clear hb1 b0 b1 b2 d0 d1 d2 K0
          have d0 := K1.out.two.d0
          have d1 := K1.out.two.d1
          have d2 := K1.out.two.d2
          go_wp2_with fail
          refine (place_any ys Y ny cy b.i _ YL.out (by omega) (by exact K1.out.ry)).mono ?_
          rintro e w2 ⟨rfl, hb2⟩
          have K2 := Lib.hid (K1.out.keep hb2)
          clear hb2 d0 d1 d2 K1
          have b0 := K2.out.two.b0
          have b1 := K2.out.two.b1
          have b2 := K2.out.two.b2
          have d0 := K2.out.two.d0
          have d1 := K2.out.two.d1
          have d2 := K2.out.two.d2
          unfold sameOcc at AT
          by_cases he : placeI xs a.i = placeI ys b.i
          · have he' : (placeI xs a.i == placeI ys b.i) = true := by simp [he]
            rw [decide_eq_true he, Bool.true_and] at AT
            by_cases hp : 0 ≤ placeI xs a.i
            · rw [decide_eq_true hp, Bool.true_or] at AT
              clear he
              go_wp2_with fail
              go_ret
              exact ⟨by rw [AT.out]; rfl, K2.out.two.below⟩
            · rw [decide_eq_false hp, Bool.false_or] at AT
              have hp' : ¬ 0 ≤ placeI xs a.i := hp
              clear he
              by_cases hi : a.i = b.i
              · have hi' : (a.i == b.i) = true := by simp [hi]
                rw [decide_eq_true hi] at AT
                clear hi
                go_wp2_with fail
                go_ret
                exact ⟨by rw [AT.out]; rfl, K2.out.two.below⟩
              · have hi' : (a.i == b.i) = false := by simpa using hi
                rw [decide_eq_false hi] at AT
                clear hi
                go_wp2_with fail
                go_ret
                exact ⟨by rw [AT.out]; first | rfl | simp [hp], K2.out.two.below⟩
          · have he' : (placeI xs a.i == placeI ys b.i) = false := by simpa using he
            rw [decide_eq_false he, Bool.false_and] at AT
            clear he
            go_wp2_with fail
            go_ret
            exact ⟨by rw [AT.out]; rfl, K2.out.two.below⟩
        · have h1' : (a.k == 1) = false := by simpa using h1
          rw [if_neg h1] at AT
          have HN := Lib.hid hn
          clear h1 hk hn
          obtain ⟨W0, hW0⟩ : ∃ W0, W0 = ((w.alloc (.cells #[.int .i64 a.k, .int .i64 a.i, .slice A a.ks.length c] 24)).alloc (.cells #[.int .i64 b.k, .int .i64 b.i, .slice A' b.ks.length c'] 24)) := ⟨_, rfl⟩
          have hw0 : W0.heap.size = w.heap.size + 2 := by rw [hW0]; simp
          go_enter Try.func55, Try.ntmps55
          go_upto_region 7 with fail
          rw [← hW0]
          rw [← hW0] at K0
          have HW := Lib.hid hw0
          clear hW0 b0 b1 b2 d0 d1 d2 hw0
          have OE := Lib.hid (own_empty W0)
          have RX := Lib.hid (fun o => (K0.out.keep (below_al W0 o)).rx)
          go_wp2_with
            (first
              | (at_builtin; refine append_rdI (by rfl) _ _ (by rfl) W0.heap.size (.slice (some ⟨W0.heap.size, 0, none⟩) 0 0) 0 [] (by rfl) (by exact OE.out) _ X nx cx xs (by rfl) XN.out (by exact RX.out _) XL.out (by omega) (by simp) ?_; intro v1 w1 own1 grow1 at1; have KB := Lib.hid (grown_below1 grow1); have O1 := Lib.hid (show w1.ownsRow W0.heap.size 3 1 v1 xs.length (zcells xs) by rw [XL.out]; simpa using own1); have K1 := Lib.hid (K0.out.keep KB.out); have OE2 := Lib.hid (own_empty w1); have RY := Lib.hid (fun o => (K1.out.keep (below_al w1 o)).ry); clear own1 grow1 at1)
              | (at_builtin; refine append_rdI (by rfl) _ _ (by rfl) w1.heap.size (.slice (some ⟨w1.heap.size, 0, none⟩) 0 0) 0 [] (by rfl) (by exact OE2.out) _ Y ny cy ys (by rfl) YN.out (by exact RY.out _) YL.out (by omega) (by simp) ?_; intro v2 w2 own2 grow2 at2; have KB2 := Lib.hid (grown_below1 grow2); have O2 := Lib.hid (show w2.ownsRow w1.heap.size 3 1 v2 ys.length (zcells ys) by rw [YL.out]; simpa using own2); have PQ0 := Lib.hid (PQ.start K0.out.two KB.out KB2.out O1.out O2.out); have b0 := PQ0.out.two.b0; have b1 := PQ0.out.two.b1; have b2 := PQ0.out.two.b2; clear own2 grow2 at2))
          obtain ⟨i0, hi, hz0, hz1, hz2⟩ := info_parts infoI
          have HI := Lib.hid (And.intro hi (And.intro hz0 (And.intro hz1 hz2)))
          clear hi hz0 hz1 hz2 K0 K1 KB KB2 O1 O2 OE OE2 RX RY
          refine (rquantified_any a.k a.i A a.ks.length c _).mono ?_
          rintro e w3 ⟨rfl, hb3⟩
          have P3 := Lib.hid (PQ0.out.keep hb3)
          clear hb3 b0 b1 b2 PQ0
          have b0 := P3.out.two.b0
          have b1 := P3.out.two.b1
          have b2 := P3.out.two.b2
          have d0 := P3.out.two.d0
          have d1 := P3.out.two.d1
          have d2 := P3.out.two.d2
          by_cases hq : a.k = 7 ∨ a.k = 10
          · rw [decide_eq_true hq]
            rw [if_pos hq] at AT
            clear hq
            have OWP := Lib.hid (fun o => (P3.out.keep (below_al w3 o)).op)
            go_wp2_with
              (first
                | (at_builtin; refine wpList_append_lies _ (by rfl) _ _ _ (by rfl) W0.heap.size 3 i0 _ 1 8 Try.underlying123 HI.out.1 HI.out.2.1 HI.out.2.2.1 HI.out.2.2.2 (by rfl) (by omega) v1 xs.length (zcells xs) (by rfl) (by exact OWP.out _) ⟨w3.heap.size, 0, none⟩ 1 1 [.int .i64 a.i] (by rfl) (by rfl) (by exact news1i _ _ _) (by simp [Value.oneCell']) (by omega) (by have := XL.out; unfold maxLen; omega) (by have := XL.out; omega) (by have := P3.out.below.size; simp; omega) (w3.heap.size + 1) (by simp) ?_; intro g4 cap4 w4 hown4 hgrow4 hat4 hlt4; have P4 := Lib.hid (P3.out.pushP (below_al w3 _) hown4 hgrow4 (by simpa using hat4)); have e0 := P4.out.two.d0; have e1 := P4.out.two.d1; have e2 := P4.out.two.d2; have OWQ := Lib.hid (fun o => (P4.out.keep (below_al w4 o)).oq); clear hown4 hgrow4 hat4)
                | (at_builtin; refine wpList_append_lies _ (by rfl) _ _ _ (by rfl) W0.heap.size 3 i0 _ 1 8 Try.underlying123 HI.out.1 HI.out.2.1 HI.out.2.2.1 HI.out.2.2.2 (by rfl) (by omega) v2 ys.length (zcells ys) (by rfl) (by exact OWQ.out _) ⟨w4.heap.size, 0, none⟩ 1 1 [.int .i64 b.i] (by rfl) (by rfl) (by exact news1i _ _ _) (by simp [Value.oneCell']) (by omega) (by have := YL.out; unfold maxLen; omega) (by have := YL.out; omega) (by have := P4.out.below.size; simp; omega) (w4.heap.size + 1) (by simp) ?_; intro g5 cap5 w5 hown5 hgrow5 hat5 hlt5; have P5 := Lib.hid (P4.out.pushQ (below_al w4 _) hown5 hgrow5 (by simpa using hat5)); have x2 := P5.out.two.b2; clear hown5 hgrow5 hat5))
            clear x2 e0 e1 e2 b0 b1 b2 d0 d1 d2 OWP OWQ
            go_loopw [79] (fun i wr => ∃ m : Nat, m ≤ a.ks.length ∧ i = .int .i64 m ∧ alikeL (a.ks.take m) (b.ks.take m) (xs ++ [a.i]) (ys ++ [b.i]) = true ∧ PQ w W0 wr a b A A' c c' (.slice (some ⟨g4, 0, none⟩) (xs.length + 1) cap4) (.slice (some ⟨g5, 0, none⟩) (ys.length + 1) cap5) (xs ++ [a.i]) (ys ++ [b.i])) (fun i _ => a.ks.length - (intOf i).toNat)
            case atStart => exact ⟨0, Nat.zero_le _, rfl, by simp [alikeL], P5.out⟩
            case round =>
              obtain ⟨m, hm', rfl, hal, hPQ⟩ := hrel
              have AL := Lib.hid hal
              have PR := Lib.hid hPQ
              clear hal hPQ
              by_cases hlt : m < a.ks.length
              · have hltb : m < b.ks.length := by rw [← HN.out]; exact hlt
                have TK := Lib.hid (alikeL_take a.ks b.ks (xs ++ [a.i]) (ys ++ [b.i]) m hlt hltb)
                have FF := Lib.hid (alikeL_false a.ks b.ks (xs ++ [a.i]) (ys ++ [b.i]) HN.out (m + 1))
                have kz := kid_sz a m hlt
                have kd := kid_dp a m hlt
                obtain ⟨ba, oa, Aa, ca, eA, hla, p0, p1, p2, hka⟩ := PR.out.two.ta.kid m hlt
                obtain ⟨bb, ob, Ab, cb, eB, hlb, q0, q1, q2, hkb⟩ := PR.out.two.tb.kid m hltb
                have x2 := PR.out.two.b2
                have y2 := PR.out.two.d2
                obtain ⟨qa, hqa⟩ : ∃ qa, qa = a.ks[m] := ⟨_, rfl⟩
                obtain ⟨qb, hqb⟩ : ∃ qb, qb = b.ks[m] := ⟨_, rfl⟩
                rw [← hqa] at p0 p1 p2 hka TK kz kd
                rw [← hqb] at q0 q1 q2 hkb TK
                subst eA eB
                have hza : w.heap.size < wr.heap.size := block_lt_of_cell x2
                have hzb : w.heap.size + 1 < wr.heap.size := block_lt_of_cell y2
                have KA := Lib.hid hka
                have KB := Lib.hid hkb
                have BB : Below wr.drew.heap.size wr.drew wr.drew := Below.refl _ _
                have SS := Lib.hid (fun (W : World) (h : Below wr.drew.heap.size wr.drew W) => And.intro (And.intro ((h.cell (p := ⟨w.heap.size, 2, none⟩) hza).trans x2) ((h.cell (p := ⟨w.heap.size + 1, 2, none⟩) hzb).trans y2)) (And.intro (And.intro ((h.cell hla).trans p0) (And.intro ((h.cell hla).trans p1) ((h.cell hla).trans p2))) (And.intro ((h.cell hlb).trans q0) (And.intro ((h.cell hlb).trans q1) ((h.cell hlb).trans q2)))))
                have hm0 : (0 : Int) ≤ (m : Int) := by omega
                have hm1 : (m : Int) < (a.ks.length : Int) := by omega
                have hm2 : (m : Int) < (b.ks.length : Int) := by omega
                clear hqa hqb hka hkb p0 p1 p2 q0 q1 q2 x2 y2
                go_wp2_with fail
                go_region_held3 (fun w' => (w'.cell? ⟨w.heap.size, 2, none⟩ = some (.slice (some ⟨ba, oa, none⟩) a.ks.length c) ∧ w'.cell? ⟨w.heap.size + 1, 2, none⟩ = some (.slice (some ⟨bb, ob, none⟩) b.ks.length c')) ∧ ((w'.cell? ⟨ba, oa + m * 3, none⟩ = some (.int .i64 qa.k) ∧ w'.cell? ⟨ba, oa + m * 3 + 1, none⟩ = some (.int .i64 qa.i) ∧ w'.cell? ⟨ba, oa + m * 3 + 2, none⟩ = some (.slice Aa qa.ks.length ca)) ∧ (w'.cell? ⟨bb, ob + m * 3, none⟩ = some (.int .i64 qb.k) ∧ w'.cell? ⟨bb, ob + m * 3 + 1, none⟩ = some (.int .i64 qb.i) ∧ w'.cell? ⟨bb, ob + m * 3 + 2, none⟩ = some (.slice Ab qb.ks.length cb))))
                  (exact SS.out _ BB)
                  (first
                    | (go_at_call 55; refine (IH.out qa qb Aa Ab ca cb (xs ++ [a.i]) (ys ++ [b.i]) (some ⟨g4, 0, none⟩) (some ⟨g5, 0, none⟩) (xs.length + 1) (ys.length + 1) cap4 cap5 _ (by omega) (KA.out.keep ((Below.refl _ _).drew) (Nat.le_refl _)) (KB.out.keep ((Below.refl _ _).drew) (Nat.le_refl _)) (by simp) (by simp) (rd_slice (PR.out.keep ((Below.refl _ _).drew)).op).2 (rd_slice (PR.out.keep ((Below.refl _ _).drew)).oq).2 (by have := XL.out; omega) (by have := YL.out; omega) (rd_slice (PR.out.keep ((Below.refl _ _).drew)).op).1 (rd_slice (PR.out.keep ((Below.refl _ _).drew)).oq).1).mono ?_; rintro e w6 ⟨rfl, hb6⟩; replace BB := BB.trans (hb6.mono BB.size); clear hb6))
                have P6 := Lib.hid ((PR.out.keep ((Below.refl _ _).drew)).keep BB)
                rw [AL.out, Bool.true_and] at TK
                cases hr : alikeT qa qb (xs ++ [a.i]) (ys ++ [b.i]) with
                | true =>
                  rw [hr] at TK
                  go_wp2_with fail
                  go_roundw
                  case rel => exact ⟨m + 1, by omega, by go_num, TK.out, P6.out⟩
                  case measure => simp [intOf]; omega
                | false =>
                  rw [hr] at TK
                  have F := Lib.hid (FF.out TK.out)
                  go_wp2_with fail
                  go_ret
                  exact ⟨by rw [AT.out, F.out]; rfl, P6.out.two.below⟩
              · obtain rfl : m = a.ks.length := by omega
                have F := Lib.hid (show alikeL a.ks b.ks (xs ++ [a.i]) (ys ++ [b.i]) = true by have := AL.out; rw [List.take_length, HN.out, List.take_length] at this; exact this)
                go_wp2_with fail
                go_ret
                exact ⟨by rw [AT.out, F.out]; rfl, PR.out.two.below⟩
          · rw [decide_eq_false hq]
            rw [if_neg hq] at AT
            clear hq
            by_cases hi : a.i = b.i
            · have hi' : (a.i != b.i) = false := by simp [hi]
              rw [decide_eq_true hi, Bool.true_and] at AT
              clear hi
              obtain ⟨Pp, cp, hv1, _, _, _⟩ := rd_own P3.out.op
              obtain ⟨Qq, cq, hv2, _, _, _⟩ := rd_own P3.out.oq
              subst hv1 hv2
              go_wp2_with fail
              clear b0 b1 b2 d0 d1 d2
              go_loopw [79] (fun i wr => ∃ m : Nat, m ≤ a.ks.length ∧ i = .int .i64 m ∧ alikeL (a.ks.take m) (b.ks.take m) xs ys = true ∧ PQ w W0 wr a b A A' c c' (.slice Pp xs.length cp) (.slice Qq ys.length cq) xs ys) (fun i _ => a.ks.length - (intOf i).toNat)
              case atStart => exact ⟨0, Nat.zero_le _, rfl, by simp [alikeL], P3.out⟩
              case round =>
                obtain ⟨m, hm', rfl, hal, hPQ⟩ := hrel
                have AL := Lib.hid hal
                have PR := Lib.hid hPQ
                clear hal hPQ
                by_cases hlt : m < a.ks.length
                · have hltb : m < b.ks.length := by rw [← HN.out]; exact hlt
                  have TK := Lib.hid (alikeL_take a.ks b.ks xs ys m hlt hltb)
                  have FF := Lib.hid (alikeL_false a.ks b.ks xs ys HN.out (m + 1))
                  have kz := kid_sz a m hlt
                  have kd := kid_dp a m hlt
                  obtain ⟨ba, oa, Aa, ca, eA, hla, p0, p1, p2, hka⟩ := PR.out.two.ta.kid m hlt
                  obtain ⟨bb, ob, Ab, cb, eB, hlb, q0, q1, q2, hkb⟩ := PR.out.two.tb.kid m hltb
                  have x2 := PR.out.two.b2
                  have y2 := PR.out.two.d2
                  obtain ⟨qa, hqa⟩ : ∃ qa, qa = a.ks[m] := ⟨_, rfl⟩
                  obtain ⟨qb, hqb⟩ : ∃ qb, qb = b.ks[m] := ⟨_, rfl⟩
                  rw [← hqa] at p0 p1 p2 hka TK kz kd
                  rw [← hqb] at q0 q1 q2 hkb TK
                  subst eA eB
                  have hza : w.heap.size < wr.heap.size := block_lt_of_cell x2
                  have hzb : w.heap.size + 1 < wr.heap.size := block_lt_of_cell y2
                  have KA := Lib.hid hka
                  have KB := Lib.hid hkb
                  have BB : Below wr.drew.heap.size wr.drew wr.drew := Below.refl _ _
                  have SS := Lib.hid (fun (W : World) (h : Below wr.drew.heap.size wr.drew W) => And.intro (And.intro ((h.cell (p := ⟨w.heap.size, 2, none⟩) hza).trans x2) ((h.cell (p := ⟨w.heap.size + 1, 2, none⟩) hzb).trans y2)) (And.intro (And.intro ((h.cell hla).trans p0) (And.intro ((h.cell hla).trans p1) ((h.cell hla).trans p2))) (And.intro ((h.cell hlb).trans q0) (And.intro ((h.cell hlb).trans q1) ((h.cell hlb).trans q2)))))
                  have hm0 : (0 : Int) ≤ (m : Int) := by omega
                  have hm1 : (m : Int) < (a.ks.length : Int) := by omega
                  have hm2 : (m : Int) < (b.ks.length : Int) := by omega
                  clear hqa hqb hka hkb p0 p1 p2 q0 q1 q2 x2 y2
                  go_wp2_with fail
                  go_region_held3 (fun w' => (w'.cell? ⟨w.heap.size, 2, none⟩ = some (.slice (some ⟨ba, oa, none⟩) a.ks.length c) ∧ w'.cell? ⟨w.heap.size + 1, 2, none⟩ = some (.slice (some ⟨bb, ob, none⟩) b.ks.length c')) ∧ ((w'.cell? ⟨ba, oa + m * 3, none⟩ = some (.int .i64 qa.k) ∧ w'.cell? ⟨ba, oa + m * 3 + 1, none⟩ = some (.int .i64 qa.i) ∧ w'.cell? ⟨ba, oa + m * 3 + 2, none⟩ = some (.slice Aa qa.ks.length ca)) ∧ (w'.cell? ⟨bb, ob + m * 3, none⟩ = some (.int .i64 qb.k) ∧ w'.cell? ⟨bb, ob + m * 3 + 1, none⟩ = some (.int .i64 qb.i) ∧ w'.cell? ⟨bb, ob + m * 3 + 2, none⟩ = some (.slice Ab qb.ks.length cb))))
                    (exact SS.out _ BB)
                    (first
                      | (go_at_call 55; refine (IH.out qa qb Aa Ab ca cb xs ys Pp Qq xs.length ys.length cp cq _ (by omega) (KA.out.keep ((Below.refl _ _).drew) (Nat.le_refl _)) (KB.out.keep ((Below.refl _ _).drew) (Nat.le_refl _)) rfl rfl (rd_slice (PR.out.keep ((Below.refl _ _).drew)).op).2 (rd_slice (PR.out.keep ((Below.refl _ _).drew)).oq).2 (by have := XL.out; omega) (by have := YL.out; omega) (rd_slice (PR.out.keep ((Below.refl _ _).drew)).op).1 (rd_slice (PR.out.keep ((Below.refl _ _).drew)).oq).1).mono ?_; rintro e w6 ⟨rfl, hb6⟩; replace BB := BB.trans (hb6.mono BB.size); clear hb6))
                  have P6 := Lib.hid ((PR.out.keep ((Below.refl _ _).drew)).keep BB)
                  rw [AL.out, Bool.true_and] at TK
                  cases hr : alikeT qa qb xs ys with
                  | true =>
                    rw [hr] at TK
                    go_wp2_with fail
                    go_roundw
                    case rel => exact ⟨m + 1, by omega, by go_num, TK.out, P6.out⟩
                    case measure => simp [intOf]; omega
                  | false =>
                    rw [hr] at TK
                    have F := Lib.hid (FF.out TK.out)
                    go_wp2_with fail
                    go_ret
                    exact ⟨by rw [AT.out, F.out]; rfl, P6.out.two.below⟩
                · obtain rfl : m = a.ks.length := by omega
                  have F := Lib.hid (show alikeL a.ks b.ks xs ys = true by have := AL.out; rw [List.take_length, HN.out, List.take_length] at this; exact this)
                  go_wp2_with fail
                  go_ret
                  exact ⟨by rw [AT.out, F.out]; rfl, PR.out.two.below⟩
            · have hi' : (a.i != b.i) = true := by rw [bne_iff_ne]; exact hi
              rw [decide_eq_false hi, Bool.false_and] at AT
              clear hi
              go_wp2_with fail
              go_ret
              exact ⟨by rw [AT.out]; rfl, P3.out.two.below⟩
      · have hn' : ((a.ks.length : Int) != (b.ks.length : Int)) = true := by rw [bne_iff_ne]; omega
        rw [decide_eq_false hn, Bool.false_and, Bool.and_false] at AT
        clear hk hn
        go_enter Try.func55, Try.ntmps55
        go_wp2_with fail
        go_ret
        exact ⟨by rw [AT.out]; rfl, K0.out.two.below⟩
    · have hk' : (a.k != b.k) = true := by rw [bne_iff_ne]; exact hk
      rw [decide_eq_false hk, Bool.false_and] at AT
      clear hk
      go_enter Try.func55, Try.ntmps55
      go_wp2_with fail
      go_ret
      exact ⟨by rw [AT.out]; rfl, K0.out.two.below⟩
end Go.Proofs.Ytfdggmmibgbfnaa
