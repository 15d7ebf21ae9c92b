/- The document's put, walked: a list of expressions in a row of one's own, each tree in a span of its own. -/
import Derived.Test.YtmmdhlemkcddmaaI24
import Derived.Test.YtmmdhlemkcddmaaI3
import Derived.Test.YtmmdhlemkcddmaaI21
namespace Go.Proofs.Ytmmdhlemkcddmaa
open Go.RowKit
set_option linter.unusedVariables false
set_option linter.unusedSimpArgs false
theorem ok_fit {t : Tr} (h : rightN t = 0) : t.fit := by
  have : ∀ t : Tr, t.shp = true → t.fit := by
    intro t
    induction t using Tr.ind with
    | h t ih =>
      intro hs
      have := (kind_of_shp t hs).2.2.2.2
      exact (fit_eq t).2 ⟨by unfold Cap; omega, fun q hq => ih q hq (shp_kid hs hq)⟩
  exact this t (right_shp' h).1
/-- the document's list; S: the blocks that others may write -/
structure RL (W : World) (base : Nat) (S : Nat → Prop) (L : List Tr) (A : Option Addr) (c : Nat) (cs : List (Option Addr × Nat)) : Prop where
  len : cs.length = L.length
  own : W.ownsRow base 24 3 (.slice A L.length c) L.length (rowC L cs)
  tree : ∀ m (h : m < L.length), ∃ a b, OwnT W a b L[m] (cs[m]'(by omega)).1 (cs[m]'(by omega)).2 ∧ b ≤ W.heap.size ∧ (∀ k, S k → k < a ∨ b ≤ k) ∧ ∀ k, (Value.slice A 0 0).ownBlock = some k → k < a ∨ b ≤ k
theorem RL.blk {W : World} {base : Nat} {S : Nat → Prop} {L : List Tr} {A : Option Addr} {c : Nat} {cs : List (Option Addr × Nat)} (h : RL W base S L A c cs) {k : Nat} (e : (Value.slice A 0 0).ownBlock = some k) : base ≤ k ∧ k < W.heap.size := h.own.lt k (ownB.trans e)
theorem RL.isT {W : World} {base : Nat} {S : Nat → Prop} {L : List Tr} {A : Option Addr} {c : Nat} {cs : List (Option Addr × Nat)} (h : RL W base S L A c cs) (ho : Ok L) (hc : L.length ≤ 100000) : IsT W W.heap.size (.node 0 0 L) A c := by
  have hl := h.len
  refine IsT.mk ?_ (by show Cap L.length; unfold Cap; omega) (fun m hm => ?_)
  · show L.length ≤ c
    rcases h.own.2 with ⟨e, h0⟩ | ⟨g, cap, cur, e, _, _, hc', _⟩
    · omega
    · cases e; exact hc'
  · have hm' : m < L.length := hm
    show KidAt W W.heap.size A m L[m]
    have own := h.own
    obtain ⟨g, cap, hv, hg1, hg2⟩ := own.form (by omega)
    cases hv
    obtain ⟨r0, r1, r2⟩ := rowC_get L cs m hm' hl
    obtain ⟨a, b, ht, hb, _, _⟩ := h.tree m hm'
    refine ⟨g, 0, (cs[m]'(by omega)).1, (cs[m]'(by omega)).2, rfl, hg2, ?_, ?_, ?_, ht.isT _ hb (ok_fit (ho.right _ (List.getElem_mem hm')))⟩
    · rw [Nat.zero_add, own.cellAt (m * 3) (by omega), r0]
    · rw [Nat.zero_add, own.cellAt (m * 3 + 1) (by omega), r1]
    · rw [Nat.zero_add, own.cellAt (m * 3 + 2) (by omega), r2]
/-- others' blocks may turn -/
theorem RL.move {W W' : World} {base : Nat} {S : Nat → Prop} {L : List Tr} {A : Option Addr} {c : Nat} {cs : List (Option Addr × Nat)} (h : RL W base S L A c cs) (hs : ∀ k, k < W.heap.size → ¬ S k → W'.heap[k]? = W.heap[k]?) (hz : W.heap.size ≤ W'.heap.size) (hr : ∀ k, (Value.slice A 0 0).ownBlock = some k → ¬ S k) : RL W' base S L A c cs := by
  refine ⟨h.len, ?_, fun m hm => ?_⟩
  · obtain ⟨h1, h2⟩ := h.own
    refine ⟨h1, ?_⟩
    rcases h2 with h2 | ⟨g, cap, cur, e, hb, hc, h3⟩
    · exact .inl h2
    · have hk := (Array.getElem?_eq_some_iff.1 hc).1
      refine .inr ⟨g, cap, cur, e, hb, (hs g hk (hr g ?_)).trans hc, h3⟩
      rw [ownB (n' := L.length) (c' := c), e]; rfl
  · obtain ⟨a, b, ht, hb, h1, h2⟩ := h.tree m hm
    refine ⟨a, b, OwnT.same _ (fun k k1 k2 => hs k (by omega) (fun hk => ?_)) ht, by omega, h1, h2⟩
    have := h1 k hk
    omega
theorem RL.keep {W W' : World} {base : Nat} {S : Nat → Prop} {L : List Tr} {A : Option Addr} {c : Nat} {cs : List (Option Addr × Nat)} (h : RL W base S L A c cs) (hb : Below W.heap.size W W') : RL W' base S L A c cs := by
  refine ⟨h.len, ownsRow_same (hi := W.heap.size) h.own (fun k _ k2 => hb.block k k2) (fun g e => (h.own.lt g e).2), fun m hm => ?_⟩
  obtain ⟨a, b, ht, hbz, h1, h2⟩ := h.tree m hm
  exact ⟨a, b, OwnT.same _ (fun k k1 k2 => hb.block k (by omega)) ht, Nat.le_trans hbz hb.size, h1, h2⟩
theorem RL.newS {W : World} {base : Nat} {S S' : Nat → Prop} {L : List Tr} {A : Option Addr} {c : Nat} {cs : List (Option Addr × Nat)} (h : RL W base S L A c cs) (hs : ∀ k, S' k → S k ∨ W.heap.size ≤ k) : RL W base S' L A c cs := by
  refine ⟨h.len, h.own, fun m hm => ?_⟩
  obtain ⟨a, b, ht, hbz, h1, h2⟩ := h.tree m hm
  refine ⟨a, b, ht, hbz, fun k hk => ?_, h2⟩
  rcases hs k hk with h3 | h3
  · exact h1 k h3
  · omega
/-- one more, its tree copied -/
theorem RL.snoc {w4 w5 w6 : World} {base : Nat} {S : Nat → Prop} {L : List Tr} {A : Option Addr} {c : Nat} {cs : List (Option Addr × Nat)} {t : Tr} {A5 : Option Addr} {c5 : Nat} {o : Obj} (h : RL w4 base S L A c cs) (hS : ∀ k, S k → k < base) (hbase : base ≤ w4.heap.size) (hb : Below w4.heap.size w4 w5) (ht : OwnT w5 w4.heap.size w5.heap.size t A5 c5)
    {g6 cap6 : Nat} (ho : w6.ownsRow base 24 3 (.slice (some ⟨g6, 0, none⟩) (L.length + 1) cap6) (L.length + 1) (rowC L cs ++ rowC [t] [(A5, c5)])) (hg : (w5.alloc o).grownBy w6 (Value.slice A L.length c).ownBlock) (hat : (Value.slice A L.length c).ownBlock = some g6 ∨ g6 = (w5.alloc o).heap.size) :
    RL w6 base S (L ++ [t]) (some ⟨g6, 0, none⟩) cap6 (cs ++ [(A5, c5)]) := by
  have hl := h.len
  have hz := hb.size
  have hz6 := hg.size
  rw [World.size_alloc] at hz6 hat
  have hn6 : ∀ k, (Value.slice (some ⟨g6, 0, none⟩) 0 0).ownBlock = some k → k = g6 := by intro k e; simp [Value.ownBlock] at e; exact e.symm
  have hrow : ∀ k, (Value.slice A L.length c).ownBlock = some k → base ≤ k ∧ k < w4.heap.size := fun k e => h.own.lt k e
  have hsame : ∀ k, k < w5.heap.size → (Value.slice A L.length c).ownBlock ≠ some k → w6.heap[k]? = w5.heap[k]? := fun k hk hne =>
    (hg.block k (by simp; omega) (fun e => hne e.symm)).trans (Below.heap_alloc w5 o k hk)
  refine ⟨by simp [hl], by rw [List.length_append, rowC_app _ _ _ _ hl]; exact ho, fun m hm => ?_⟩
  rcases Nat.lt_or_ge m L.length with h2 | h2
  · obtain ⟨a, b, htm, hbz, h3, h4⟩ := h.tree m h2
    refine ⟨a, b, ?_, by omega, h3, fun k e => ?_⟩
    · have e1 : (L ++ [t])[m] = L[m] := List.getElem_append_left h2
      have e2 : (cs ++ [(A5, c5)])[m]'(by simp; omega) = cs[m]'(by omega) := List.getElem_append_left (by omega)
      rw [e1, e2]
      refine OwnT.same _ (fun k k1 k2 => ?_) htm
      refine (hsame k (by omega) (fun e => ?_)).trans (hb.block k (by omega))
      have := h4 k (ownB.trans e)
      omega
    · have := hn6 k e
      subst this
      rcases hat with h5 | h5
      · exact h4 k (ownB.trans h5)
      · omega
  · have hm' : m = L.length := by simp at hm; omega
    subst hm'
    have e1 : (L ++ [t])[L.length]'(by simp) = t := by simp
    have e2 : (cs ++ [(A5, c5)])[L.length]'(by simp; omega) = (A5, c5) := by simp [← hl]
    refine ⟨w4.heap.size, w5.heap.size, ?_, by omega, fun k hk => .inl (Nat.lt_of_lt_of_le (hS k hk) hbase), fun k e => ?_⟩
    · rw [e1, e2]
      refine OwnT.same _ (fun k k1 k2 => hsame k k2 (fun e => ?_)) ht
      have := (hrow k e).2
      omega
    · have := hn6 k e
      subst this
      rcases hat with h5 | h5
      · exact .inl (hrow k h5).2
      · exact .inr (by omega)
/-- what is so behind a call that may put more into the list -/
structure RPut (base : Nat) (S : Nat → Prop) (w w' : World) (A : Option Addr) (L' : List Tr) (A' : Option Addr) (c' : Nat) (cs' : List (Option Addr × Nat)) : Prop where
  rl : RL w' base S L' A' c' cs'
  kp : Kp w w' (fun k => (Value.slice A 0 0).ownBlock = some k)
  own : (Value.slice A' 0 0).ownBlock = (Value.slice A 0 0).ownBlock ∨ ∀ k, (Value.slice A' 0 0).ownBlock = some k → w.heap.size ≤ k
theorem RPut.refl {base : Nat} {S : Nat → Prop} {w : World} {L : List Tr} {A : Option Addr} {c : Nat} {cs : List (Option Addr × Nat)} (h : RL w base S L A c cs) : RPut base S w w A L A c cs :=
  ⟨h, ⟨rfl, rfl, rfl, Nat.le_refl _, fun _ _ _ => rfl⟩, .inl rfl⟩
theorem RPut.trans {base : Nat} {S : Nat → Prop} {w w1 w2 : World} {A A1 A2 : Option Addr} {L1 L2 : List Tr} {c1 c2 : Nat} {cs1 cs2 : List (Option Addr × Nat)} (h : RPut base S w w1 A L1 A1 c1 cs1) (k : RPut base S w1 w2 A1 L2 A2 c2 cs2) : RPut base S w w2 A L2 A2 c2 cs2 := by
  refine ⟨k.rl, ⟨k.kp.os.trans h.kp.os, k.kp.tape.trans h.kp.tape, k.kp.output.trans h.kp.output, Nat.le_trans h.kp.size k.kp.size, fun b hb hn => ?_⟩, ?_⟩
  · refine (k.kp.block b (Nat.lt_of_lt_of_le hb h.kp.size) (fun e => ?_)).trans (h.kp.block b hb hn)
    rcases h.own with ho | ho
    · exact hn (ho ▸ e)
    · have := ho b e; omega
  · rcases k.own with ho | ho
    · rcases h.own with h2 | h2
      · exact .inl (ho.trans h2)
      · exact .inr fun x e => h2 x (ho ▸ e)
    · exact .inr fun x e => Nat.le_trans h.kp.size (ho x e)
theorem RPut.keep {base : Nat} {S : Nat → Prop} {w w1 w2 : World} {A A1 : Option Addr} {L1 : List Tr} {c1 : Nat} {cs1 : List (Option Addr × Nat)} (h : RPut base S w w1 A L1 A1 c1 cs1) (hb : Below w1.heap.size w1 w2) : RPut base S w w2 A L1 A1 c1 cs1 :=
  h.trans ⟨h.rl.keep hb, Kp.of_below hb _, .inl rfl⟩
/-- what lies below the row is as it was -/
theorem RPut.bel {base : Nat} {S : Nat → Prop} {w w' : World} {A : Option Addr} {L' : List Tr} {A' : Option Addr} {c' : Nat} {cs' : List (Option Addr × Nat)} (h : RPut base S w w' A L' A' c' cs') (hA : ∀ k, (Value.slice A 0 0).ownBlock = some k → base ≤ k) (hz : base ≤ w.heap.size) : Below base w w' :=
  ⟨h.kp.os, h.kp.tape, h.kp.output, h.kp.size, fun k hk => h.kp.block k (by omega) (fun e => by have := hA k e; omega)⟩
set_option maxHeartbeats 4000000 in
set_option maxRecDepth 100000 in
theorem rput_any (base : Nat) (S : Nat → Prop) (hS : ∀ k, S k → k < base) (w0 : World) : ∀ (N : Nat) (t : Tr) (At : Option Addr) (ct : Nat) (L : List Tr) (A : Option Addr) (c : Nat) (cs : List (Option Addr × Nat)) (w : World), t.sz ≤ N → rightN t = 0 → Ok L → L.length + t.sz ≤ 30000 → IsT w0 base t At ct → Below base w0 w → base ≤ w.heap.size → RL w base S L A c cs →
    Calls Try.prog 50 #[.slice A L.length c, .agg #[.int .i64 t.k, .int .i64 t.i, .slice At t.ks.length ct]] w fun e w' => ∃ A' c' cs', e = .returned (.slice A' (dputT t L).length c') ∧ RPut base S w w' A (dputT t L) A' c' cs' := by
  intro N
  induction N with
  | zero => intro t At ct L A c cs w h; have := sz_pos t; omega
  | succ N ih =>
    intro t At ct L A c cs w hN hr ho hlen ht hB0 hbase hL
    have IH := Lib.hid ih
    have HT := Lib.hid ht
    have HB0 := Lib.hid hB0
    have HL := Lib.hid hL
    have HO := Lib.hid ho
    have HR := Lib.hid hr
    have HSS := Lib.hid hS
    have hl := ht.len
    have tz := sz_eq t
    have tp := sz_pos t
    have hab := below_al w (.cells #[.int .i64 t.k, .int .i64 t.i, .slice At t.ks.length ct] 24)
    have R1 := Lib.hid (RPut.refl (hL.keep hab))
    have BX0 := Lib.hid (Box3.new w (.int .i64 t.k) (.int .i64 t.i) (.slice At t.ks.length ct))
    have AB := Lib.hid hab
    have TT := Lib.hid (IsT.keep (hB0.trans (hab.mono hbase)) (show base ≤ (w.alloc (.cells #[.int .i64 t.k, .int .i64 t.i, .slice At t.ks.length ct] 24)).heap.size by simp; omega) t ht)
    have LT := Lib.hid ((hL.keep hab).isT ho (by omega))
    obtain ⟨y0, y1, y2⟩ := BX0.out.cells
    obtain ⟨i0, hi, hz0, hz1, hz2⟩ := info_parts infoE
    have HI := Lib.hid (And.intro hi (And.intro hz0 (And.intro hz1 hz2)))
    clear ih ht hB0 hL ho hr hab hi hz0 hz1 hz2 hS
    go_enter Try.func50, Try.ntmps50
    go_wp2_with fail
    refine (rfind6_any L 0 0 A c t At ct _ (by exact LT.out) (by exact TT.out)).mono ?_
    rintro e w1 ⟨rfl, hb1⟩
    have R2 := Lib.hid (R1.out.keep hb1)
    have BX1 := Lib.hid (BX0.out.keep hb1 BX0.out.lt)
    clear hb1 y0 y1 y2 R1 BX0 TT LT
    have RA := Lib.hid (fun k e => (HL.out.blk (k := k) e).1)
    by_cases hm : t ∈ L
    · have h0 : 0 < ((num L t : Nat) : Int) := by have := num_mem.2 hm; omega
      have E := Lib.hid (dputT_in hm)
      clear hm
      go_wp2_with fail
      go_ret
      refine ⟨A, c, cs, by rw [E.out]; rfl, ?_⟩
      rw [E.out]
      exact ⟨R2.out.rl, ⟨R2.out.kp.os, R2.out.kp.tape, R2.out.kp.output, Nat.le_trans (below_al w _).size R2.out.kp.size, fun k hk hn => (R2.out.kp.block k (by simp; omega) hn).trans (Below.heap_alloc w _ k hk)⟩, .inl rfl⟩
    · have h0 : ¬ 0 < ((num L t : Nat) : Int) := by rw [num_zero.2 hm]; simp
      have h0d : decide (0 < num L t) = false := by rw [num_zero.2 hm]; rfl
      have E := Lib.hid (show dputT t L = dputK t.ks L ++ [t] by rw [dputT_eq, if_neg hm])
      clear hm
      obtain ⟨z0, z1, z2⟩ := BX1.out.cells
      go_wp2_with fail
      clear z0 z1 z2
      go_loopw [0, 15] (fun l x wx => ∃ (m : Nat) (A1 : Option Addr) (c1 : Nat) (cs1 : List (Option Addr × Nat)), m ≤ t.ks.length ∧ x = .int .i64 (m : Int) ∧ l = .slice A1 (dputK (t.ks.take m) L).length c1 ∧ RPut base S (w.alloc (.cells #[.int .i64 t.k, .int .i64 t.i, .slice At t.ks.length ct] 24)) wx A (dputK (t.ks.take m) L) A1 c1 cs1 ∧ Box3 wx w.heap.size (.int .i64 t.k) (.int .i64 t.i) (.slice At t.ks.length ct)) (fun _ x _ => t.ks.length - (intOf x).toNat)
      case atStart => exact ⟨0, A, c, cs, Nat.zero_le _, rfl, by simp [dputK_nil], by simpa [dputK_nil] using R2.out, BX1.out⟩
      case round =>
        obtain ⟨m, A1, c1, cs1, hmm, rfl, rfl, hR, hX⟩ := hrel
        have R3 := Lib.hid hR
        have BX3 := Lib.hid hX
        have hzx := hR.kp.size
        simp only [World.size_alloc] at hzx
        have BW := Lib.hid (HB0.out.trans ((below_al w (.cells #[.int .i64 t.k, .int .i64 t.i, .slice At t.ks.length ct] 24)).mono hbase |>.trans (hR.bel RA.out (by simp; omega))))
        have NE := Lib.hid (show ∀ k, (Value.slice A1 0 0).ownBlock = some k → k ≠ w.heap.size from fun k e h2 => by
          rcases hR.own with h3 | h3
          · have := (HL.out.blk (h3 ▸ e)).2; omega
          · have := h3 k e; simp at this; omega)
        clear hR hX
        by_cases hlt : m < t.ks.length
        · obtain ⟨b, o, Aq, cq, rfl, hltb, p0, p1, p2, hkT⟩ := HT.out.kid m hlt
          have kz := kid_sz t m hlt
          have NX := Lib.hid (dputK_take t.ks m hlt L)
          have RQ := Lib.hid (right_kid HR.out (List.getElem_mem hlt))
          have OK1 := Lib.hid (dputK_right (ks := t.ks.take m) HO.out (fun q hq => right_kid HR.out (List.mem_of_mem_take hq)))
          have LN := Lib.hid (show (dputK (t.ks.take m) L).length + t.ks[m].sz ≤ 30000 by
            have h1 := dputK_len (t.ks.take m) L
            have h2 := szL_take t.ks m hlt
            have h3 := szL_take_le t.ks (m + 1)
            omega)
          obtain ⟨q, hq⟩ : ∃ q, q = t.ks[m] := ⟨_, rfl⟩
          rw [← hq] at p0 p1 p2 hkT kz NX RQ LN
          have d0 := (BW.out.cell hltb).trans p0
          have d1 := (BW.out.cell hltb).trans p1
          have d2 := (BW.out.cell hltb).trans p2
          have KT := Lib.hid hkT
          have hbq := below_al wr (.cells #[.int .i64 q.k, .int .i64 q.i, .slice Aq q.ks.length cq] 24)
          have R4 := Lib.hid (R3.out.keep hbq)
          have BX4 := Lib.hid (BX3.out.keep hbq BX3.out.lt)
          have BW4 := Lib.hid (BW.out.trans (hbq.mono (by omega)))
          obtain ⟨k0, k1, k2⟩ := (Box3.new wr (.int .i64 q.k) (.int .i64 q.i) (.slice Aq q.ks.length cq)).cells
          obtain ⟨D, hD⟩ : ∃ D, D = dputK (t.ks.take m) L := ⟨_, rfl⟩
          rw [← hD] at NX OK1 LN R4 ⊢
          clear p0 p1 p2 hkT hbq hq hD R3 BX3
          go_wp2_with fail
          refine (IH.out q Aq cq D A1 c1 cs1 _ (by omega) RQ.out OK1.out LN.out KT.out (by exact BW4.out) (by simp; omega) (by exact R4.out.rl)).mono ?_
          rintro x w5 ⟨A5, c5, cs5, rfl, hP5⟩
          have R5 := Lib.hid (R4.out.trans hP5)
          have BX5 := Lib.hid (show Box3 w5 w.heap.size (.int .i64 t.k) (.int .i64 t.i) (.slice (some ⟨b, o, none⟩) t.ks.length ct) from (hP5.kp.block _ BX4.out.lt (fun e => NE.out _ e rfl)).trans BX4.out)
          clear hP5 k0 k1 k2 d0 d1 d2
          rw [← NX.out] at R5 ⊢
          go_wp2_with fail
          go_roundw
          case rel => exact ⟨m + 1, A5, c5, cs5, by omega, by go_num, rfl, R5.out, BX5.out⟩
          case measure => simp [intOf]; omega
        · obtain rfl : m = t.ks.length := by omega
          have LN := Lib.hid (show (dputK t.ks L).length + 1 ≤ 30000 by have := dputK_len t.ks L; omega)
          rw [List.take_length] at R3 ⊢
          obtain ⟨D, hD⟩ : ∃ D, D = dputK t.ks L := ⟨_, rfl⟩
          rw [← hD] at E LN R3 ⊢
          clear hD
          obtain ⟨z0, z1, z2⟩ := BX3.out.cells
          have TW := Lib.hid (IsT.keep BW.out (show base ≤ wr.heap.size by omega) t HT.out)
          have hln := LN.out
          go_wp2_with fail
          refine (copy_any t.sz t At ct _ (Nat.le_refl _) (by exact TW.out)).mono ?_
          rintro x w5 ⟨A5, c5, rfl, h5, hb5⟩
          have O5 := Lib.hid h5
          have B5 := Lib.hid hb5
          have hz5 := hb5.size
          have RR := Lib.hid (R3.out.rl.keep (hb5.trans ((below_al w5 (.cells #[.int .i64 t.k, .int .i64 t.i, .slice A5 t.ks.length c5] 24)).mono hz5)))
          have NEW := Lib.hid (show ∀ j u, (rowC [t] [(A5, c5)])[j]? = some u → (w5.alloc (.cells #[.int .i64 t.k, .int .i64 t.i, .slice A5 t.ks.length c5] 24)).cell? ((⟨w5.heap.size, 0, none⟩ : Addr).add j) = some u from fun j u hu => by
            have e2 : (⟨w5.heap.size, 0, none⟩ : Addr).add j = ⟨w5.heap.size, j, none⟩ := by unfold Addr.add; split <;> simp_all
            rw [e2, cell_new3]
            simpa [rowC] using hu)
          clear h5 hb5 z0 z1 z2
          go_wp2_with (at_builtin; refine wpList_append_lies _ (by rfl) _ _ _ (by rfl) base 24 i0 _ 3 40 Try.underlying22 HI.out.1 HI.out.2.1 HI.out.2.2.1 HI.out.2.2.2 (by rfl) (by omega) (.slice A1 D.length c1) D.length (rowC D cs1) (by rfl) (by exact RR.out.own) ⟨w5.heap.size, 0, none⟩ 1 1 (rowC [t] [(A5, c5)]) (by rfl) (by rfl) (by exact NEW.out) (by exact rowC_one _ _) (by omega) (by unfold maxLen; omega) (by omega) (by simp; omega) (w5.heap.size + 1) (by simp) ?_; intro g6 cap6 w6 hown6 hgrow6 hat6 hlt6; have HO6 := Lib.hid hown6; have HG6 := Lib.hid hgrow6; have HA6 := Lib.hid hat6; clear hown6 hgrow6 hat6)
          have RN := Lib.hid (RL.snoc R3.out.rl HSS.out (by omega) B5.out O5.out HO6.out HG6.out (by rw [World.size_alloc]; exact HA6.out))
          go_wp2_with fail
          go_ret
          refine ⟨some ⟨g6, 0, none⟩, cap6, cs1 ++ [(A5, c5)], by rw [E.out, List.length_append]; rfl, ?_⟩
          rw [E.out]
          have hgz := HG6.out.size
          rw [World.size_alloc] at hgz
          have P6 : RPut base S wr w6 A1 (D ++ [t]) (some ⟨g6, 0, none⟩) cap6 (cs1 ++ [(A5, c5)]) := by
            refine ⟨RN.out, ⟨?_, ?_, ?_, by omega, fun k hk hn => ?_⟩, ?_⟩
            · exact HG6.out.os.trans B5.out.os
            · exact HG6.out.tape.trans B5.out.tape
            · exact HG6.out.output.trans B5.out.output
            · refine (HG6.out.block k (by simp; omega) (fun e => hn (ownB.trans e.symm))).trans ((Below.heap_alloc w5 _ k (by omega)).trans (B5.out.block k hk))
            · rcases HA6.out with h7 | h7
              · exact .inl (by rw [ownB (n' := D.length) (c' := c1) (A := A1), h7]; rfl)
              · refine .inr fun k e => ?_
                simp [Value.ownBlock] at e
                omega
          have P7 := R3.out.trans P6
          exact ⟨P7.rl, ⟨P7.kp.os, P7.kp.tape, P7.kp.output, Nat.le_trans (below_al w _).size P7.kp.size, fun k hk hn => (P7.kp.block k (by simp; omega) hn).trans (Below.heap_alloc w _ k hk)⟩, by
            rcases P7.own with h8 | h8
            · exact .inl h8
            · exact .inr fun k e => by have := h8 k e; simp at this; omega⟩
end Go.Proofs.Ytmmdhlemkcddmaa
