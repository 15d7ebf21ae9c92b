/- Encode of package expr. -/
import Derived.Test.YthnbkojgoegmpaaE14
namespace Go.Proofs.Ythnbkojgoegmpaa
open Go.RowKit Go.Shelf
attribute [local go_sem] Oper.semAt_some
def encP {w0 : World} {B : Nat} (l : List (Nd w0 B)) : List Nat := encE (l.map Nd.nd)
theorem encP_snoc {w0 : World} {B : Nat} (l : List (Nd w0 B)) (x : Nd w0 B) : encP (l ++ [x]) = encP l ++ putN (headE x.t) := by
  unfold encP; rw [List.map_append, List.map_cons, List.map_nil, encE_snoc]; rfl
theorem encP_len {w0 : World} {B : Nat} (l : List (Nd w0 B)) : (encP l).length ≤ 10 * l.length := by
  have := encE_len (l.map Nd.nd); rwa [List.length_map] at this
theorem KB.drew {B hi : Nat} (W : World) : KB B hi W W.drew := ⟨(Below.refl _ _).drew, fun _ _ _ h => h⟩
theorem KB.setBox {B hi b : Nat} {W : World} {t : TypeId} {v : Value} (h : Boxed W b t v) (ht : t ≠ 24) (hB : B ≤ b) (v' : Value) : KB B hi W (W.setCell ⟨b, 0, none⟩ v') :=
  KB.grown (grownBy_setCell' W b v') (Nat.le_trans hB (Nat.le_of_lt h.lt)) (fun k hk => by
    cases hk
    exact ⟨hB, _, _, h, ht⟩)
/-- the end of a round: bytes put behind those in the box -/
theorem enc_round {B hi b n m : Nat} {W W2 W3 : World} {v v' : Value} {xs ys : List Value} (hBW : B ≤ W.heap.size) (hb : B ≤ b) (bv : Boxed W b 34 v) (ow : W.ownsRow B 5 1 v n xs) (b2 : Below W.drew.heap.size W.drew W2)
    (hown : W3.ownsRow B 5 1 v' m ys) (hgrow : W2.grownBy W3 v.ownBlock) :
    Boxed W3 b 34 v ∧ Boxed (W3.setCell ⟨b, 0, none⟩ v') b 34 v' ∧ (W3.setCell ⟨b, 0, none⟩ v').ownsRow B 5 1 v' m ys ∧ KeepsOthers W (W3.setCell ⟨b, 0, none⟩ v') ∧ KB B hi W (W3.setCell ⟨b, 0, none⟩ v') := by
  have bW2 : Boxed W2 b 34 v := boxed_below (W := W.drew) bv b2 bv.lt
  have oW2 : W2.ownsRow B 5 1 v n xs := own_keep (w := W.drew) ow b2
  have bW3 : Boxed W3 b 34 v := bW2.kept hgrow (bW2.not_row (by decide) oW2)
  have hs2 : W.heap.size ≤ W2.heap.size := b2.size
  refine ⟨bW3, bW3.set v', hown.kept (grownBy_setCell' W3 b v') (.inr (bW3.not_row (by decide) hown).symm), ?_, ?_⟩
  · refine (((KeepsOthers.drew W).trans (keepsOthers_below b2)).trans (KeepsOthers.of_grownBy hgrow fun j o ej hj => ?_)).trans (KeepsOthers.setCell _ _ _)
    obtain ⟨_, cs, h⟩ := own_row oW2 j ej
    rw [h] at hj
    cases hj
    rfl
  · refine (((KB.drew W).trans (KB.of_below b2 hBW)).trans (KB.grown hgrow (by omega) fun k hk => ?_)).trans (KB.setBox bW3 (by decide) hb v')
    obtain ⟨h1, cs, h⟩ := own_row oW2 k hk
    exact ⟨h1, cs, _, h, by decide⟩
set_option maxRecDepth 100000 in
set_option maxHeartbeats 4000000 in
theorem encode_any (t : Tr) (A : Option Addr) (c : Nat) (w : World) (ht : IsT w w.heap.size t A c) :
    Calls Try.prog 28 #[.agg #[.int .i64 t.k, .int .i64 t.i, .slice A t.ks.length c]] w (EncPost w t) := by
  have hb0 : Below w.heap.size w (w.alloc (.cells #[.int .i64 t.k, .int .i64 t.i, .slice A t.ks.length c] 24)) := (Below.refl _ _).alloc (Nat.le_refl _) _
  have HT := Lib.hid (ht.keep hb0 hb0.size)
  clear ht
  refine (callsIn_wide (n := 5)).1 ?_
  refine callsIn_of_wp_marks Try.func28 rfl trivial ?_ rfl
  simp only [Try.ntmps28, List.size_toArray, List.length_cons, List.length_nil, Nat.reduceAdd, Nat.reduceSub, Array.replicate_succ, Array.replicate_zero, List.push_toArray, List.append_toArray, List.nil_append, List.cons_append]
  gi_wp2_with fail
  refine ⟨by first | trivial | simp, ?_⟩
  refine (callsIn_wide.2 (right_any t A c _ (by exact HT.out))).mono ?_
  rintro e w1 ⟨rfl, hb1⟩
  obtain ⟨f0, f1, f2⟩ := box_cells (hb1.mono (by simp))
  have hx1 : w.heap.size < w1.heap.size := by have := hb1.size; simp only [World.size_alloc] at this; omega
  have hc1 : Below w.heap.size w w1 := hb0.trans (hb1.mono hb0.size)
  have HT1 := Lib.hid (HT.out.keep hb1 hb1.size)
  obtain ⟨r, hr⟩ : ∃ r, r = rightN t := ⟨_, rfl⟩
  have HR := Lib.hid hr
  rw [← hr]
  clear hb1
  by_cases h : r = 0
  · have F := Lib.hid (right_zero t (by omega))
    clear hr
    subst h
    have g0 : (w1.alloc (.cells #[.slice none 0 0] 34)).cell? ⟨w.heap.size, 0, none⟩ = some (.int .i64 t.k) := (((Below.refl w1.heap.size w1).alloc (Nat.le_refl _) _).cell hx1).trans f0
    have g1 : (w1.alloc (.cells #[.slice none 0 0] 34)).cell? ⟨w.heap.size, 1, none⟩ = some (.int .i64 t.i) := (((Below.refl w1.heap.size w1).alloc (Nat.le_refl _) _).cell hx1).trans f1
    have g2 : (w1.alloc (.cells #[.slice none 0 0] 34)).cell? ⟨w.heap.size, 2, none⟩ = some (.slice A t.ks.length c) := (((Below.refl w1.heap.size w1).alloc (Nat.le_refl _) _).cell hx1).trans f2
    gi_wp2_with ((try refine ⟨trivial, ?_⟩); gi_at_call 39; refine (nodes_in Fence.wide 4 trivial rfl _ _ _ _ _ _).mono ?_; rintro e w' ⟨rfl, rfl⟩)
    obtain ⟨i0, hi, hz0, hz1, hz2⟩ := info_parts Try.info_byte
    obtain ⟨W0, hW0⟩ : ∃ W0, (w1.alloc (.cells #[.slice none 0 0] 34)).alloc (.cells #[.int .i64 t.k, .int .i64 t.i, .slice A t.ks.length c] 24) = W0 := ⟨_, rfl⟩
    have b1 := (Boxed.new w1 34 (.slice none 0 0)).alloc (.cells #[.int .i64 t.k, .int .i64 t.i, .slice A t.ks.length c] 24)
    have b5 := Box3.new (w1.alloc (.cells #[.slice none 0 0] 34)) (.int .i64 t.k) (.int .i64 t.i) (.slice A t.ks.length c)
    have hB0 : Below w1.heap.size w1 ((w1.alloc (.cells #[.slice none 0 0] 34)).alloc (.cells #[.int .i64 t.k, .int .i64 t.i, .slice A t.ks.length c] 24)) := ((Below.refl _ w1).alloc (Nat.le_refl _) _).alloc (by simp) _
    have hsz : ((w1.alloc (.cells #[.slice none 0 0] 34)).alloc (.cells #[.int .i64 t.k, .int .i64 t.i, .slice A t.ks.length c] 24)).heap.size = w1.heap.size + 2 := by simp
    simp only [World.size_alloc] at b1 b5
    rw [hW0] at b1 b5 hB0 hsz ⊢
    clear hW0 g0 g1 g2
    refine wpIn_rangeFunc_ownH (α := Nd w1 w1.heap.size) rfl (by omega) (gf := 63) (lb := #[.pointer (some ⟨w1.heap.size + 1, 0, none⟩)]) rfl trivial (enters_of Try.func63 (by kernel_rfl) rfl)
      (nodes_stops Fence.wide rfl _ trivial trivial rfl (w1.heap.size + 1) w1.heap.size (w1.heap.size + 1) w1 t A c W0 (by omega) (by omega) (by omega) b5.cells HT1.out hB0) (fun h k => h.trans k) (KB.putObj (by omega)) (Below.refl _ _) (fun _ => rfl)
      (fun pre W => (∃ v, Boxed W w1.heap.size 34 v ∧ W.ownsRow w1.heap.size 5 1 v (encP pre).length (bcells (encP pre)) ∧ True) ∧ Below w1.heap.size w1 W ∧ Box3 W (w1.heap.size + 1) (.int .i64 t.k) (.int .i64 t.i) (.slice A t.ks.length c))
      (fun co pre W => False)
      ?hI ?hIx ⟨⟨_, b1, World.ownsRow_nil _ _ _ _, trivial⟩, hB0, b5⟩
      (fun x a' W => ∃ Bx, w1.heap.size + 2 ≤ Bx ∧ Box3 W Bx (.int .i64 x.t.k) (.int .i64 x.t.i) (.slice x.A x.t.ks.length x.c) ∧ a' = { tmps := #[.agg #[.int .i64 t.k, .int .i64 t.i, .slice A t.ks.length c], .pointer (some ⟨w.heap.size, 0, none⟩), .slice none 0 0, .int .i64 0, .int .i64 0, .pointer (some ⟨w1.heap.size, 0, none⟩), undef, .pointer (some ⟨Bx, 0, none⟩), undef, undef, .agg #[.int .i64 t.k, .int .i64 t.i, .slice A t.ks.length c], .int .i64 0, .int .i64 0, .bool false, undef, .agg #[.int .i64 t.k, .int .i64 t.i, .slice A t.ks.length c], .func (.func 63) #[] #[.pointer (some ⟨w1.heap.size + 1, 0, none⟩)], .int .i64 (wr64 x.d), .agg #[.int .i64 x.t.k, .int .i64 x.t.i, .slice x.A x.t.ks.length x.c], undef, undef, undef, undef, undef, undef, undef, undef, undef, undef, undef, undef, undef, undef, undef, undef, undef], defers := [] })
      ?hAx ?assign ?body ?done ?stop
    case hI =>
      exact OwnFrom.and (Own.from (holdsRow_own w1.heap.size w1.heap.size 34 5 1 (fun pre : List (Nd w1 w1.heap.size) => (encP pre).length) (fun pre => bcells (encP pre)) (fun _ _ => True)) _) (OwnFrom.and (ownFrom_below (Nat.le_refl _) (by omega)) (box3_own _ _ _ _ _))
    case hIx => exact fun co => ownFrom_pure _ _
    case hAx =>
      rintro x a' s Wa Wb row ⟨Bx, h1, h2, h3⟩ hg hr
      refine ⟨Bx, h1, h2.grown hg (fun e => ?_), h3⟩
      obtain ⟨_, o, ho, hc⟩ := hr Bx e.symm
      rw [show Wa.heap[Bx]? = _ from h2] at ho
      cases ho
      cases hc
    case assign =>
      rintro l pre x W K ⟨⟨v, bv, ow, _⟩, iB, i6⟩ hK
      have hs2 : w1.heap.size + 2 ≤ W.heap.size := by have := i6.lt; omega
      simp only [encN, Array.zip_eq_zipWith, List.zipWith_toArray, List.foldl_toArray]
      gi_wp2
      exact hK _ _ ((KeepsOthers.alloc _ _).from _) (KB.alloc (by omega) _) ⟨⟨v, bv.alloc _, ow.alloc _, trivial⟩, iB.alloc iB.size _, i6.keep ((Below.refl W.heap.size W).alloc (Nat.le_refl _) _) i6.lt⟩ ⟨W.heap.size, hs2, Box3.new W _ _ _, rfl⟩
    case body =>
      rintro l pre x a' W hl ⟨r, hr⟩ ⟨⟨v, bv, ow, _⟩, iB, i6⟩ ⟨Bx, hBx, bX, rfl⟩ hlt
      obtain ⟨x0, x1, x2⟩ := bX.cells
      have PK := Lib.hid (packE x.t W)
      have hU := headE_lt x.t
      have SN := Lib.hid (encP_snoc pre x)
      have PL := putN_len (headE x.t)
      have EL := encP_len pre
      have hxl := x.h.len
      obtain ⟨hd, hhd⟩ : ∃ hd, hd = headE x.t := ⟨_, rfl⟩
      rw [← hhd] at PK hU SN PL
      clear hhd
      gi_wp2_with fail
      refine ⟨trivial, ?_⟩
      refine (CallsIn.inRound l (callsIn_wide.2 PK.out)).mono ?_
      rintro e W1 ⟨rr, rfl, rfl⟩
      gi_wp2_with fail
      refine wpIn_region_lists (by kernel_rfl) [[0, 1, 2, 3, 4, 5], [1, 0, 2, 3, 4, 5], [1, 2, 0, 3, 4, 5], [1, 2, 3, 0, 4, 5]] (by kernel_rfl) ?_
      intro is his
      simp only [List.mem_cons, List.not_mem_nil, or_false] at his
      rcases his with rfl | rfl | rfl | rfl
      all_goals simp only [List.filterMap_cons, List.filterMap_nil, List.getElem?_toArray, List.getElem?_cons_succ, List.getElem?_cons_zero]
      all_goals
        have hw64 : IntKind.u64.wrap (hd : Int) = (hd : Int) := by rw [IntKind.wrap_u64]; omega
        have cD : W.drew.cell? ⟨w1.heap.size, 0, none⟩ = some v := bv.cell
        gi_wp2_with fail
        refine ⟨trivial, ?_⟩
        refine (CallsIn.inRound l (callsIn_wide.2 (put_any hd _ (by unfold U64; omega)))).mono ?_
        rintro e W2 ⟨v2, rfl, o2, b2⟩
        obtain ⟨g, cap, rfl, hg0, hg1, hg⟩ := own_at o2 PL.1
        have c2 : W2.cell? ⟨w1.heap.size, 0, none⟩ = some v := (b2.cell (by exact bv.lt)).trans cD
        have OX := Lib.hid (own_keep (w := W.drew) ow b2)
        have hs3 : w1.heap.size ≤ W2.heap.size := Nat.le_trans iB.size b2.size
        have ER := Lib.hid (fun (W3 : World) (v' : Value) (m : Nat) (ys : List Value) => @enc_round w1.heap.size (w1.heap.size + 1) w1.heap.size _ m W W2 W3 v v' _ ys iB.size (Nat.le_refl _) bv ow b2)
        clear o2 cD
        simp only []
        rename_i K hK
        refine hK _ _ ?_
        clear hK K
        first | refine wpListIn_append_own _ rfl _ _ 34 rfl w1.heap.size 5 i0 (.int .u8 0) 1 1 Try.underlying34 hi hz0 hz1 hz2 rfl (by decide) _ _ _ rfl OX.out ⟨g, 0, none⟩ (putN hd).length cap (bcells (putN hd)) rfl (bcells_len _) hg (bcells_one _) ?c3 ?c4 hs3 ?_ | (refine wpListIn_plain rfl fun K hK => ?_; go_simp; refine hK _ _ ?_; clear hK K; refine wpListIn_append_own _ rfl _ _ 34 rfl w1.heap.size 5 i0 (.int .u8 0) 1 1 Try.underlying34 hi hz0 hz1 hz2 rfl (by decide) _ _ _ rfl OX.out ⟨g, 0, none⟩ (putN hd).length cap (bcells (putN hd)) rfl (bcells_len _) hg (bcells_one _) ?c3 ?c4 hs3 ?_)
        case c3 => have := F.out.1; unfold maxLen; omega
        case c4 => have := F.out.1; omega
        intro v' W3 hown' hgrow _
        obtain ⟨E1, E2, E3, E4, E5⟩ := ER.out _ _ _ _ hown' hgrow
        rcases own_form hown' with ⟨_, hz⟩ | ⟨g', cap', rfl, _⟩
        · omega
        have d1 := E1.cell
        have d2 := E1.frozen
        clear hown' hgrow
        have E3' := Lib.hid E3
        clear E3 ER OX hg
        gi_wp2_with fail
        exact ⟨E4.from _, E5, ⟨_, E2, by rw [SN.out, bcells_app, List.length_append]; exact E3'.out, trivial⟩, iB.trans E5.below, E5.box (Nat.le_refl _) i6⟩
    case done =>
      rintro D ys W hD hS ⟨⟨v, bv, ow, _⟩, iB, i6⟩ hK
      have G := Lib.hid (show encP ys = t.enc by unfold encP; rw [hS]; exact encE_pre 1 t F.out.2)
      have c2 := bv.cell
      have O := Lib.hid (own_mono (ownsRow_putObj ow (.deferred none) hK rfl) hc1.size)
      have B := Lib.hid (hc1.trans ((below_left iB (by omega) hK (.deferred none)).mono hc1.size))
      gi_wp2_with fail
      refine ⟨by simp, .inl ⟨_, _, rfl, run_takeDeferred hK, ?_⟩⟩
      exact ⟨.tuple #[v, .int .i64 0], by simp [results, Try.results28, go_sem], v, t.enc, ret_v2 (by rw [← HR.out]; rfl), by rw [← HR.out]; rfl, by rw [← G.out]; exact O.out, B.out⟩
    case stop =>
      rintro D co pre W hD hSp h hK
      cases h
  · clear hr
    have h' : ((r : Int) != 0) = true := by rw [bne_iff_ne]; omega
    gi_wp2_with fail
    exact ⟨.tuple #[.slice none 0 0, .int .i64 (r : Nat)], by simp [results, Try.results28, go_sem], _, [], ret_v2 (by rw [← HR.out]), by rw [← HR.out, if_neg h], World.ownsRow_nil _ _ _ _, hc1⟩
end Go.Proofs.Ythnbkojgoegmpaa
