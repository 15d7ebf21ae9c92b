/- replace of package expr. -/
import Derived.Test.YtdobpdedphkglaaE26
import Derived.Test.YtdobpdedphkglaaT7
namespace Go.Proofs.Ytdobpdedphkglaa
open Go.RowKit
theorem Rd.dropZ {w : World} {B : Nat} {A : Option Addr} {zs : List Int} (h : Rd .i64 w B A zs) (p : Nat) : Rd .i64 w B (A.map fun x => x.add p) (zs.drop p) := fun j hj => by
  rw [List.length_drop] at hj
  obtain ⟨ad, rfl, hlt, hc⟩ := h (p + j) (by omega)
  refine ⟨ad.add p, rfl, by rw [add_block]; exact hlt, ?_⟩
  rw [addr_add_add, hc]
  congr 2
  simp [List.getD_eq_getElem?_getD, List.getElem?_drop]
theorem Rd.upZ {w w' : World} {A : Option Addr} {zs : List Int} (h : Rd .i64 w w.heap.size A zs) (hb : Below w.heap.size w w') : Rd .i64 w' w'.heap.size A zs := (h.keep hb (Nat.le_refl _)).keep (Below.refl _ _) hb.size
theorem set_get_same {l l' : List Tr} {m : Nat} {y : Tr} (h : l' = l.set m y) (hm : m < l'.length) : l'[m] = y := by subst h; simp
theorem set_get_other {l l' : List Tr} {m m0 : Nat} {y : Tr} (h : l' = l.set m0 y) (hne : m ≠ m0) (hm : m < l'.length) (hm' : m < l.length) : l'[m] = l[m] := by
  subst h
  rw [List.getElem_set, if_neg (fun e => hne e.symm)]
/-- what a round of replace holds -/
structure Rk (wr W : World) (S n m : Nat) (ks : List Tr) (cs : List (Option Addr × Nat)) (q : Tr) (A : Option Addr) (c : Nat) (x : Tr) (Ax : Option Addr) (cx : Nat) (A1 : Option Addr) (zs : List Int) : Prop where
  kid : Box3 W wr.heap.size (.int .i64 q.k) (.int .i64 q.i) (.slice A q.ks.length c)
  xb : Box3 W (S + 1) (.int .i64 x.k) (.int .i64 x.i) (.slice Ax x.ks.length cx)
  fill : Fill W (S + 3) (S + 3) n ks m cs
  isT : IsT W W.heap.size q A c
  isX : IsT W W.heap.size x Ax cx
  path : Rd .i64 W W.heap.size A1 zs
  below : Below wr.heap.size wr W
theorem Rk.keep {wr W W' : World} {S n m : Nat} {ks : List Tr} {cs : List (Option Addr × Nat)} {q : Tr} {A : Option Addr} {c : Nat} {x : Tr} {Ax : Option Addr} {cx : Nat} {A1 : Option Addr} {zs : List Int} (h : Rk wr W S n m ks cs q A c x Ax cx A1 zs) (hb : Below W.heap.size W W') : Rk wr W' S n m ks cs q A c x Ax cx A1 zs :=
  ⟨h.kid.keep hb h.kid.lt, h.xb.keep hb h.xb.lt, h.fill.keep hb, h.isT.keep hb hb.size, h.isX.keep hb hb.size, h.path.upZ hb, h.below.trans (hb.mono h.below.size)⟩
set_option maxRecDepth 100000 in
set_option maxHeartbeats 4000000 in
theorem replace_any (x : Tr) (Ax : Option Addr) (cx : Nat) : ∀ (zs : List Int) (t q : Tr) (A : Option Addr) (c : Nat) (A1 : Option Addr) (n cap : Nat) (w : World), zs.length = n → n ≤ cap → partAt t zs = some q → IsT w w.heap.size t A c → IsT w w.heap.size x Ax cx → Rd .i64 w w.heap.size A1 zs →
    Calls Try.prog 34 #[.agg #[.int .i64 t.k, .int .i64 t.i, .slice A t.ks.length c], .slice A1 n cap, .agg #[.int .i64 x.k, .int .i64 x.i, .slice Ax x.ks.length cx]] w (NewT w (putAt x t zs)) := by
  intro zs
  induction zs with
  | nil =>
    intro t q A c A1 n cap w hn hc hp ht hx hr
    obtain rfl : n = 0 := by simpa using hn.symm
    obtain ⟨e0, e1, e2, hb0⟩ := three_boxes w (.int .i64 t.k) (.int .i64 t.i) (.slice A t.ks.length c) (.int .i64 x.k) (.int .i64 x.i) (.slice Ax x.ks.length cx) (.int .i64 0) (.int .i64 0) (.slice none 0 0)
    have HX := Lib.hid (hx.keep hb0 hb0.size)
    have E2 := Lib.hid e2
    have HB0 := Lib.hid hb0
    have P := Lib.hid (putAt_nil x t)
    clear ht hx hr hp hn hc e0 e1 e2 hb0
    go_enter Try.func34, Try.ntmps34
    go_wp2_with fail
    refine (clone_any x.sz x Ax cx _ (Nat.le_refl _) (by exact HX.out)).mono ?_
    rintro e w1 ⟨A3, c3, rfl, ho, hb1⟩
    have X2 := E2.out.keep hb1 E2.out.lt
    obtain ⟨y0, y1, y2⟩ := X2.cells
    have f0 := X2.frozen 0
    have f1 := X2.frozen 1
    have f2 := X2.frozen 2
    have BR := Lib.hid (HB0.out.trans (hb1.mono HB0.out.size))
    have HO := Lib.hid ho
    clear ho hb1 X2
    go_wp2_with fail
    refine bodyPost_ret (v := .agg #[.int .i64 x.k, .int .i64 x.i, .slice A3 x.ks.length c3]) (by simp [results, Try.results34, go_sem, y0, y1, y2]) rfl ?_
    rw [P.out]
    refine ⟨A3, c3, rfl, ?_, below_set3 BR.out _ _ _ (by omega)⟩
    have hs : SameIn (w.heap.size + 3) w1.heap.size w1 (((w1.setCell ⟨w.heap.size + 2, 0, none⟩ (.int .i64 x.k)).setCell ⟨w.heap.size + 2, 1, none⟩ (.int .i64 x.i)).setCell ⟨w.heap.size + 2, 2, none⟩ (.slice A3 x.ks.length c3)) := same_set3 _ _ _ _ _ (by omega)
    have h3 := HO.out
    simp only [World.size_alloc] at h3
    have := (OwnT.same _ hs h3).lower (lo' := w.heap.size) (by omega)
    simpa using this
  | cons z r ih =>
    intro t q A c A1 n cap w hn hc hp ht hx hr
    have IH := Lib.hid ih
    obtain ⟨m0, rfl, hm0, hp'⟩ := partAt_some hp
    have P := Lib.hid (putAt_in x t m0 r hm0)
    obtain ⟨ad, rfl, hadl, hc0⟩ := hr 0 (by simp)
    simp only [List.getD_cons_zero, Addr.add, if_true] at hc0
    have HR := Lib.hid hr
    have HT := Lib.hid ht
    have HX := Lib.hid hx
    have HP := Lib.hid hp'
    have hl := ht.len
    have hn1 : n = r.length + 1 := by rw [← hn]; rfl
    have HN := Lib.hid hn1
    obtain ⟨y, hy⟩ : ∃ y, y = putAt x t.ks[m0] r := ⟨_, rfl⟩
    have HY := Lib.hid hy
    rw [← hy] at P
    obtain ⟨ks', hks'⟩ : ∃ ks', ks' = t.ks.set m0 y := ⟨_, rfl⟩
    have KL := Lib.hid (show t.ks.length = ks'.length by rw [hks', List.length_set])
    have KS := Lib.hid hks'
    rw [← hks'] at P
    obtain ⟨i0, hi, hz0, hz1, hz2⟩ := info_parts infoE
    obtain ⟨e0, e1, e2, hb0⟩ := three_boxes w (.int .i64 t.k) (.int .i64 t.i) (.slice A t.ks.length c) (.int .i64 x.k) (.int .i64 x.i) (.slice Ax x.ks.length cx) (.int .i64 0) (.int .i64 0) (.slice none 0 0)
    have E0 := Lib.hid e0
    have E1 := Lib.hid e1
    have E2 := Lib.hid e2
    have HB0 := Lib.hid hb0
    have hnz : ((n : Int) == 0) = false := by rw [beq_eq_false_iff_ne]; omega
    have hn0 : (0 : Int) < (n : Int) := by omega
    clear ih ht hx hr hp hp' hn hy hks' e0 e1 e2 hb0 hn1
    by_cases hc1 : cap = 1
    · subst hc1
      obtain rfl : n = 1 := by have := HN.out; omega
      obtain rfl : r = [] := List.eq_nil_of_length_eq_zero (by have := HN.out; omega)
      go_enter Try.func34, Try.ntmps34
      go_wp2_with (at_make; refine wpList_make_full _ rfl _ _ 22 rfl (w.heap.size + 3) 24 i0 _ 3 Try.underlying22 hi hz0 hz1 _ _ _ _ t.ks.length rfl rfl rfl rfl ?b2 ?b3 ?b4 ?_)
      case b2 => rw [hz2]; omega
      case b3 => unfold maxLen; omega
      case b4 => simp
      intro w3 own3 grow3
      have b3 := below_grown grow3
      simp only [World.size_alloc] at b3
      have hs3 := b3.size
      have F0 : Fill w3 (w.heap.size + 3) (w.heap.size + 3) t.ks.length ks' 0 [] := Fill.start own3
      have x0 := E0.out.keep b3 (by omega)
      have hB3 : Below w.heap.size w w3 := HB0.out.trans (b3.mono (by omega))
      have z2 := x0.cells.2.2
      have S0 := Lib.hid (And.intro x0 (And.intro (E1.out.keep b3 (by omega)) (And.intro (E2.out.keep b3 (by omega)) (And.intro F0 hB3))))
      clear own3 grow3 b3 F0 x0 hB3 E0 E1 E2 HB0
      go_wp2_with fail
      go_loopw [22] (fun i wr => ∃ (m : Nat) (cs : List (Option Addr × Nat)), m ≤ t.ks.length ∧ i = .int .i64 m ∧ Box3 wr w.heap.size (.int .i64 t.k) (.int .i64 t.i) (.slice A t.ks.length c) ∧ Box3 wr (w.heap.size + 1) (.int .i64 x.k) (.int .i64 x.i) (.slice Ax x.ks.length cx) ∧ Box3 wr (w.heap.size + 2) (.int .i64 0) (.int .i64 0) (.slice none 0 0) ∧ Fill wr (w.heap.size + 3) (w.heap.size + 3) t.ks.length ks' m cs ∧ Below w.heap.size w wr) (fun i _ => t.ks.length - (intOf i).toNat)
      case atStart => exact ⟨0, [], Nat.zero_le _, rfl, S0.out.1, S0.out.2.1, S0.out.2.2.1, S0.out.2.2.2.1, S0.out.2.2.2.2⟩
      case round =>
        obtain ⟨m, cs, hm', rfl, hb1, hb2, hb3, hF, hbr⟩ := hrel
        have HB1 := Lib.hid hb1
        have HB2 := Lib.hid hb2
        have HB3 := Lib.hid hb3
        have HF := Lib.hid hF
        clear hb1 hb2 hb3 hF z2 S0
        by_cases hlt : m < t.ks.length
        · obtain ⟨b, o, A', c', rfl, hlt', p0, p1, p2, hk⟩ := HT.out.kid m hlt
          have STEP := Lib.hid (fun (w1 : World) => @Fill.step wr w1 _ _ _ _ _ _ HF.out (by rw [← KL.out]; exact hlt) KL.out)
          have hgl : w.heap.size + 3 < wr.heap.size := (HF.out.own.lt (w.heap.size + 3) rfl).2
          have d0 := (hbr.cell hlt').trans p0
          have d1 := (hbr.cell hlt').trans p1
          have d2 := (hbr.cell hlt').trans p2
          have hnn : (m : Int) < (t.ks.length : Int) := by omega
          have ha : ∀ o, Below wr.heap.size wr (wr.alloc o) := fun o => (Below.refl _ _).alloc (Nat.le_refl _) _
          have hpc : ∀ o, (wr.alloc o).cell? ad = some (.int .i64 (m0 : Int)) := fun o => (((ha o).mono hbr.size).cell (p := ad) (by omega)).trans ((hbr.cell hadl).trans hc0)
          obtain ⟨q', hq'⟩ : ∃ q', q' = t.ks[m] := ⟨_, rfl⟩
          have T0 : ∀ o, o = .cells #[.int .i64 q'.k, .int .i64 q'.i, .slice A' q'.ks.length c'] 24 (0, 0) → Rk wr (wr.alloc o) w.heap.size t.ks.length m ks' cs q' A' c' x Ax cx (some ad) [(m0 : Int)] := by
            rintro o rfl
            exact ⟨Box3.new _ _ _ _, HB2.out.keep (ha _) HB2.out.lt, HF.out.keep (ha _), by rw [hq']; exact (hk.keep hbr hbr.size).keep (ha _) (ha _).size, (HX.out.keep hbr hbr.size).keep (ha _) (ha _).size, (HR.out.upZ hbr).upZ (ha _), ha _⟩
          by_cases hmm : m = m0
          · subst hmm
            have IHY := Lib.hid (fun (A1 : Option Addr) (n cap : Nat) (w : World) (h1 : ([] : List Int).length = n) (h2 : n ≤ cap) (h3 : IsT w w.heap.size q' A' c') (h4 : IsT w w.heap.size x Ax cx) (h5 : Rd .i64 w w.heap.size A1 []) => (by rw [HY.out, ← hq']; exact IH.out q' q A' c' A1 n cap w h1 h2 (by rw [hq']; exact HP.out) h3 h4 h5 : Calls Try.prog 34 #[.agg #[.int .i64 q'.k, .int .i64 q'.i, .slice A' q'.ks.length c'], .slice A1 n cap, .agg #[.int .i64 x.k, .int .i64 x.i, .slice Ax x.ks.length cx]] w (NewT w y)))
            rw [set_get_same KS.out] at STEP
            rw [← hq'] at d0 d1 d2
            have T' := (T0 _ rfl).keep ((Below.refl _ _).drew)
            clear p0 p1 p2 hk hq' T0
            have hnr := HN.out
            have RD0 := Lib.hid (show ∀ (W : World) (A : Option Addr), Rd .i64 W W.heap.size A [] from fun _ _ => Rd.nil _ _ _ _)
            clear hnr
            go_wp2_with fail
            go_region_held3 (fun w' => (w'.cell? ⟨wr.heap.size, 0, none⟩ = some (.int .i64 q'.k) ∧ w'.cell? ⟨wr.heap.size, 1, none⟩ = some (.int .i64 q'.i) ∧ w'.cell? ⟨wr.heap.size, 2, none⟩ = some (.slice A' q'.ks.length c')) ∧ (w'.cell? ⟨w.heap.size + 1, 0, none⟩ = some (.int .i64 x.k) ∧ w'.cell? ⟨w.heap.size + 1, 1, none⟩ = some (.int .i64 x.i) ∧ w'.cell? ⟨w.heap.size + 1, 2, none⟩ = some (.slice Ax x.ks.length cx)))
              (first | exact ⟨T'.kid.cells, T'.xb.cells⟩ | exact ⟨(((T'.kid.set_other _ _ (by show wr.heap.size ≠ w.heap.size + 3; omega)).set_other _ _ (by show wr.heap.size ≠ w.heap.size + 3; omega)).set_other _ _ (by show wr.heap.size ≠ w.heap.size + 3; omega)).cells, (((T'.xb.set_other _ _ (by show w.heap.size + 1 ≠ w.heap.size + 3; omega)).set_other _ _ (by show w.heap.size + 1 ≠ w.heap.size + 3; omega)).set_other _ _ (by show w.heap.size + 1 ≠ w.heap.size + 3; omega)).cells⟩)
              (first
                | (go_at_call 34; refine (IHY.out _ _ _ _ (by first | rfl | simp) (by first | omega | simp) (by exact T'.isT) (by exact T'.isX) (by first | exact RD0.out _ _ | exact (T'.path.dropZ 1))).mono ?_; rintro e w1 ⟨A2, c2, rfl, ho, hb2⟩; have HO := Lib.hid ho; have HBX := Lib.hid (T'.below.trans (hb2.mono T'.below.size)); have HLO := Lib.hid T'.below.size; replace T' := T'.keep hb2; clear hb2 ho; obtain ⟨r0, r1, r2⟩ := T'.fill.cells (by omega) KL.out; have s0 := T'.fill.frozen (m * 3); have s1 := T'.fill.frozen (m * 3 + 1); have s2 := T'.fill.frozen (m * 3 + 2)))
            have NF := Lib.hid (STEP.out w1 HBX.out HLO.out HO.out)
            have BW := Lib.hid ((((Below.refl (w.heap.size + 3) w1).setCell (p := ⟨w.heap.size + 3, m * 3, none⟩) (Nat.le_refl _) (.int .i64 y.k)).setCell (p := ⟨w.heap.size + 3, m * 3 + 1, none⟩) (Nat.le_refl _) (.int .i64 y.i)).setCell (p := ⟨w.heap.size + 3, m * 3 + 2, none⟩) (Nat.le_refl _) (.slice A2 y.ks.length c2))
            have NB1 := Lib.hid ((HB1.out.keep HBX.out HB1.out.lt).keep BW.out (by omega))
            have NB2 := Lib.hid ((HB2.out.keep HBX.out HB2.out.lt).keep BW.out (by omega))
            have NB3 := Lib.hid ((HB3.out.keep HBX.out HB3.out.lt).keep BW.out (by omega))
            have NBB := Lib.hid ((hbr.trans (HBX.out.mono hbr.size)).trans (BW.out.mono (by omega)))
            clear T' r0 r1 r2 s0 s1 s2
            go_wp2_with fail
            go_roundw
            case rel => exact ⟨m + 1, _, by omega, by go_num, NB1.out, NB2.out, NB3.out, NF.out, NBB.out⟩
            case measure => simp [intOf]; omega
          · have hmi : ((m : Int) == (m0 : Int)) = false := by rw [beq_eq_false_iff_ne]; omega
            rw [set_get_other KS.out hmm _ hlt, ← hq'] at STEP
            rw [← hq'] at d0 d1 d2
            have T' := T0 _ rfl
            obtain ⟨k0, k1, k2⟩ := T'.kid.cells
            clear p0 p1 p2 hk hq' T0
            go_wp2_with fail
            refine (clone_any q'.sz q' A' c' _ (Nat.le_refl _) (by exact T'.isT)).mono ?_
            rintro e w1 ⟨A2, c2, rfl, ho, hb2⟩
            have HO := Lib.hid ho
            have HBX := Lib.hid (T'.below.trans (hb2.mono T'.below.size))
            have HLO := Lib.hid T'.below.size
            replace T' := T'.keep hb2
            clear hb2 ho k0 k1 k2
            obtain ⟨r0, r1, r2⟩ := T'.fill.cells (by omega) KL.out
            have s0 := T'.fill.frozen (m * 3)
            have s1 := T'.fill.frozen (m * 3 + 1)
            have s2 := T'.fill.frozen (m * 3 + 2)
            go_wp2_with fail
            have NF := Lib.hid (STEP.out w1 HBX.out HLO.out HO.out)
            have BW := Lib.hid ((((Below.refl (w.heap.size + 3) w1).setCell (p := ⟨w.heap.size + 3, m * 3, none⟩) (Nat.le_refl _) (.int .i64 q'.k)).setCell (p := ⟨w.heap.size + 3, m * 3 + 1, none⟩) (Nat.le_refl _) (.int .i64 q'.i)).setCell (p := ⟨w.heap.size + 3, m * 3 + 2, none⟩) (Nat.le_refl _) (.slice A2 q'.ks.length c2))
            have NB1 := Lib.hid ((HB1.out.keep HBX.out HB1.out.lt).keep BW.out (by omega))
            have NB2 := Lib.hid ((HB2.out.keep HBX.out HB2.out.lt).keep BW.out (by omega))
            have NB3 := Lib.hid ((HB3.out.keep HBX.out HB3.out.lt).keep BW.out (by omega))
            have NBB := Lib.hid ((hbr.trans (HBX.out.mono hbr.size)).trans (BW.out.mono (by omega)))
            clear T' r0 r1 r2 s0 s1 s2
            go_wp2_with fail
            go_roundw
            case rel => exact ⟨m + 1, _, by omega, by go_num, NB1.out, NB2.out, NB3.out, NF.out, NBB.out⟩
            case measure => simp [intOf]; omega
        · obtain rfl : m = t.ks.length := by omega
          have DONE := Lib.hid (show OwnT wr (w.heap.size + 3) wr.heap.size (.node t.k t.i ks') (some ⟨w.heap.size + 3, 0, none⟩) t.ks.length from Fill.done (t := .node t.k t.i ks') HF.out KL.out)
          obtain ⟨x0, x1, x2⟩ := HB1.out.cells
          obtain ⟨y0, y1, y2⟩ := HB3.out.cells
          have f0 := HB3.out.frozen 0
          have f1 := HB3.out.frozen 1
          have f2 := HB3.out.frozen 2
          go_wp2_with fail
          refine bodyPost_ret (v := .agg #[.int .i64 t.k, .int .i64 t.i, .slice (some ⟨w.heap.size + 3, 0, none⟩) t.ks.length t.ks.length]) (by simp [results, Try.results34, go_sem, y0, y1, y2]) rfl ?_
          rw [P.out]
          refine ⟨some ⟨w.heap.size + 3, 0, none⟩, t.ks.length, by rw [KL.out]; rfl, ?_, below_set3 hbr _ _ _ (by omega)⟩
          have hs : SameIn (w.heap.size + 3) wr.heap.size wr (((wr.setCell ⟨w.heap.size + 2, 0, none⟩ (.int .i64 t.k)).setCell ⟨w.heap.size + 2, 1, none⟩ (.int .i64 t.i)).setCell ⟨w.heap.size + 2, 2, none⟩ (.slice (some ⟨w.heap.size + 3, 0, none⟩) t.ks.length t.ks.length)) := same_set3 _ _ _ _ _ (by omega)
          have := (OwnT.same _ hs DONE.out).lower (lo' := w.heap.size) (by omega)
          simpa using this
    · have h1a : ¬ (cap : Int) = 1 := by omega
      have h1b : ¬ cap - 1 = 0 := by omega
      go_enter Try.func34, Try.ntmps34
      go_wp2_with (at_make; refine wpList_make_full _ rfl _ _ 22 rfl (w.heap.size + 3) 24 i0 _ 3 Try.underlying22 hi hz0 hz1 _ _ _ _ t.ks.length rfl rfl rfl rfl ?b2 ?b3 ?b4 ?_)
      case b2 => rw [hz2]; omega
      case b3 => unfold maxLen; omega
      case b4 => simp
      intro w3 own3 grow3
      have b3 := below_grown grow3
      simp only [World.size_alloc] at b3
      have hs3 := b3.size
      have F0 : Fill w3 (w.heap.size + 3) (w.heap.size + 3) t.ks.length ks' 0 [] := Fill.start own3
      have x0 := E0.out.keep b3 (by omega)
      have hB3 : Below w.heap.size w w3 := HB0.out.trans (b3.mono (by omega))
      have z2 := x0.cells.2.2
      have S0 := Lib.hid (And.intro x0 (And.intro (E1.out.keep b3 (by omega)) (And.intro (E2.out.keep b3 (by omega)) (And.intro F0 hB3))))
      clear own3 grow3 b3 F0 x0 hB3 E0 E1 E2 HB0
      go_wp2_with fail
      go_loopw [22] (fun i wr => ∃ (m : Nat) (cs : List (Option Addr × Nat)), m ≤ t.ks.length ∧ i = .int .i64 m ∧ Box3 wr w.heap.size (.int .i64 t.k) (.int .i64 t.i) (.slice A t.ks.length c) ∧ Box3 wr (w.heap.size + 1) (.int .i64 x.k) (.int .i64 x.i) (.slice Ax x.ks.length cx) ∧ Box3 wr (w.heap.size + 2) (.int .i64 0) (.int .i64 0) (.slice none 0 0) ∧ Fill wr (w.heap.size + 3) (w.heap.size + 3) t.ks.length ks' m cs ∧ Below w.heap.size w wr) (fun i _ => t.ks.length - (intOf i).toNat)
      case atStart => exact ⟨0, [], Nat.zero_le _, rfl, S0.out.1, S0.out.2.1, S0.out.2.2.1, S0.out.2.2.2.1, S0.out.2.2.2.2⟩
      case round =>
        obtain ⟨m, cs, hm', rfl, hb1, hb2, hb3, hF, hbr⟩ := hrel
        have HB1 := Lib.hid hb1
        have HB2 := Lib.hid hb2
        have HB3 := Lib.hid hb3
        have HF := Lib.hid hF
        clear hb1 hb2 hb3 hF z2 S0
        by_cases hlt : m < t.ks.length
        · obtain ⟨b, o, A', c', rfl, hlt', p0, p1, p2, hk⟩ := HT.out.kid m hlt
          have STEP := Lib.hid (fun (w1 : World) => @Fill.step wr w1 _ _ _ _ _ _ HF.out (by rw [← KL.out]; exact hlt) KL.out)
          have hgl : w.heap.size + 3 < wr.heap.size := (HF.out.own.lt (w.heap.size + 3) rfl).2
          have d0 := (hbr.cell hlt').trans p0
          have d1 := (hbr.cell hlt').trans p1
          have d2 := (hbr.cell hlt').trans p2
          have hnn : (m : Int) < (t.ks.length : Int) := by omega
          have ha : ∀ o, Below wr.heap.size wr (wr.alloc o) := fun o => (Below.refl _ _).alloc (Nat.le_refl _) _
          have hpc : ∀ o, (wr.alloc o).cell? ad = some (.int .i64 (m0 : Int)) := fun o => (((ha o).mono hbr.size).cell (p := ad) (by omega)).trans ((hbr.cell hadl).trans hc0)
          obtain ⟨q', hq'⟩ : ∃ q', q' = t.ks[m] := ⟨_, rfl⟩
          have T0 : ∀ o, o = .cells #[.int .i64 q'.k, .int .i64 q'.i, .slice A' q'.ks.length c'] 24 (0, 0) → Rk wr (wr.alloc o) w.heap.size t.ks.length m ks' cs q' A' c' x Ax cx (some ad) ((m0 : Int) :: r) := by
            rintro o rfl
            exact ⟨Box3.new _ _ _ _, HB2.out.keep (ha _) HB2.out.lt, HF.out.keep (ha _), by rw [hq']; exact (hk.keep hbr hbr.size).keep (ha _) (ha _).size, (HX.out.keep hbr hbr.size).keep (ha _) (ha _).size, (HR.out.upZ hbr).upZ (ha _), ha _⟩
          by_cases hmm : m = m0
          · subst hmm
            have IHY := Lib.hid (fun (A1 : Option Addr) (n cap : Nat) (w : World) (h1 : r.length = n) (h2 : n ≤ cap) (h3 : IsT w w.heap.size q' A' c') (h4 : IsT w w.heap.size x Ax cx) (h5 : Rd .i64 w w.heap.size A1 r) => (by rw [HY.out, ← hq']; exact IH.out q' q A' c' A1 n cap w h1 h2 (by rw [hq']; exact HP.out) h3 h4 h5 : Calls Try.prog 34 #[.agg #[.int .i64 q'.k, .int .i64 q'.i, .slice A' q'.ks.length c'], .slice A1 n cap, .agg #[.int .i64 x.k, .int .i64 x.i, .slice Ax x.ks.length cx]] w (NewT w y)))
            rw [set_get_same KS.out] at STEP
            rw [← hq'] at d0 d1 d2
            have T' := (T0 _ rfl).keep ((Below.refl _ _).drew)
            clear p0 p1 p2 hk hq' T0
            have hnr := HN.out
            have hcc : (1 : Int) ≤ (cap : Int) := by omega
            have hcn : (1 : Int) ≤ (n : Int) := by omega
            have hcq : (n : Int) ≤ (cap : Int) := by omega
            have RDP : True := trivial
            clear hnr
            go_wp2_with fail
            go_region_held3 (fun w' => (w'.cell? ⟨wr.heap.size, 0, none⟩ = some (.int .i64 q'.k) ∧ w'.cell? ⟨wr.heap.size, 1, none⟩ = some (.int .i64 q'.i) ∧ w'.cell? ⟨wr.heap.size, 2, none⟩ = some (.slice A' q'.ks.length c')) ∧ (w'.cell? ⟨w.heap.size + 1, 0, none⟩ = some (.int .i64 x.k) ∧ w'.cell? ⟨w.heap.size + 1, 1, none⟩ = some (.int .i64 x.i) ∧ w'.cell? ⟨w.heap.size + 1, 2, none⟩ = some (.slice Ax x.ks.length cx)))
              (first | exact ⟨T'.kid.cells, T'.xb.cells⟩ | exact ⟨(((T'.kid.set_other _ _ (by show wr.heap.size ≠ w.heap.size + 3; omega)).set_other _ _ (by show wr.heap.size ≠ w.heap.size + 3; omega)).set_other _ _ (by show wr.heap.size ≠ w.heap.size + 3; omega)).cells, (((T'.xb.set_other _ _ (by show w.heap.size + 1 ≠ w.heap.size + 3; omega)).set_other _ _ (by show w.heap.size + 1 ≠ w.heap.size + 3; omega)).set_other _ _ (by show w.heap.size + 1 ≠ w.heap.size + 3; omega)).cells⟩)
              (first
                | (go_at_call 34; refine (IHY.out _ _ _ _ (by have := HN.out; first | omega | simp) (by omega) (by exact T'.isT) (by exact T'.isX) (by first | exact RDP | exact (T'.path.dropZ 1))).mono ?_; rintro e w1 ⟨A2, c2, rfl, ho, hb2⟩; have HO := Lib.hid ho; have HBX := Lib.hid (T'.below.trans (hb2.mono T'.below.size)); have HLO := Lib.hid T'.below.size; replace T' := T'.keep hb2; clear hb2 ho; obtain ⟨r0, r1, r2⟩ := T'.fill.cells (by omega) KL.out; have s0 := T'.fill.frozen (m * 3); have s1 := T'.fill.frozen (m * 3 + 1); have s2 := T'.fill.frozen (m * 3 + 2)))
            have NF := Lib.hid (STEP.out w1 HBX.out HLO.out HO.out)
            have BW := Lib.hid ((((Below.refl (w.heap.size + 3) w1).setCell (p := ⟨w.heap.size + 3, m * 3, none⟩) (Nat.le_refl _) (.int .i64 y.k)).setCell (p := ⟨w.heap.size + 3, m * 3 + 1, none⟩) (Nat.le_refl _) (.int .i64 y.i)).setCell (p := ⟨w.heap.size + 3, m * 3 + 2, none⟩) (Nat.le_refl _) (.slice A2 y.ks.length c2))
            have NB1 := Lib.hid ((HB1.out.keep HBX.out HB1.out.lt).keep BW.out (by omega))
            have NB2 := Lib.hid ((HB2.out.keep HBX.out HB2.out.lt).keep BW.out (by omega))
            have NB3 := Lib.hid ((HB3.out.keep HBX.out HB3.out.lt).keep BW.out (by omega))
            have NBB := Lib.hid ((hbr.trans (HBX.out.mono hbr.size)).trans (BW.out.mono (by omega)))
            clear T' r0 r1 r2 s0 s1 s2
            go_wp2_with fail
            go_roundw
            case rel => exact ⟨m + 1, _, by omega, by go_num, NB1.out, NB2.out, NB3.out, NF.out, NBB.out⟩
            case measure => simp [intOf]; omega
          · have hmi : ((m : Int) == (m0 : Int)) = false := by rw [beq_eq_false_iff_ne]; omega
            rw [set_get_other KS.out hmm _ hlt, ← hq'] at STEP
            rw [← hq'] at d0 d1 d2
            have T' := T0 _ rfl
            obtain ⟨k0, k1, k2⟩ := T'.kid.cells
            clear p0 p1 p2 hk hq' T0
            go_wp2_with fail
            refine (clone_any q'.sz q' A' c' _ (Nat.le_refl _) (by exact T'.isT)).mono ?_
            rintro e w1 ⟨A2, c2, rfl, ho, hb2⟩
            have HO := Lib.hid ho
            have HBX := Lib.hid (T'.below.trans (hb2.mono T'.below.size))
            have HLO := Lib.hid T'.below.size
            replace T' := T'.keep hb2
            clear hb2 ho k0 k1 k2
            obtain ⟨r0, r1, r2⟩ := T'.fill.cells (by omega) KL.out
            have s0 := T'.fill.frozen (m * 3)
            have s1 := T'.fill.frozen (m * 3 + 1)
            have s2 := T'.fill.frozen (m * 3 + 2)
            go_wp2_with fail
            have NF := Lib.hid (STEP.out w1 HBX.out HLO.out HO.out)
            have BW := Lib.hid ((((Below.refl (w.heap.size + 3) w1).setCell (p := ⟨w.heap.size + 3, m * 3, none⟩) (Nat.le_refl _) (.int .i64 q'.k)).setCell (p := ⟨w.heap.size + 3, m * 3 + 1, none⟩) (Nat.le_refl _) (.int .i64 q'.i)).setCell (p := ⟨w.heap.size + 3, m * 3 + 2, none⟩) (Nat.le_refl _) (.slice A2 q'.ks.length c2))
            have NB1 := Lib.hid ((HB1.out.keep HBX.out HB1.out.lt).keep BW.out (by omega))
            have NB2 := Lib.hid ((HB2.out.keep HBX.out HB2.out.lt).keep BW.out (by omega))
            have NB3 := Lib.hid ((HB3.out.keep HBX.out HB3.out.lt).keep BW.out (by omega))
            have NBB := Lib.hid ((hbr.trans (HBX.out.mono hbr.size)).trans (BW.out.mono (by omega)))
            clear T' r0 r1 r2 s0 s1 s2
            go_wp2_with fail
            go_roundw
            case rel => exact ⟨m + 1, _, by omega, by go_num, NB1.out, NB2.out, NB3.out, NF.out, NBB.out⟩
            case measure => simp [intOf]; omega
        · obtain rfl : m = t.ks.length := by omega
          have DONE := Lib.hid (show OwnT wr (w.heap.size + 3) wr.heap.size (.node t.k t.i ks') (some ⟨w.heap.size + 3, 0, none⟩) t.ks.length from Fill.done (t := .node t.k t.i ks') HF.out KL.out)
          obtain ⟨x0, x1, x2⟩ := HB1.out.cells
          obtain ⟨y0, y1, y2⟩ := HB3.out.cells
          have f0 := HB3.out.frozen 0
          have f1 := HB3.out.frozen 1
          have f2 := HB3.out.frozen 2
          go_wp2_with fail
          refine bodyPost_ret (v := .agg #[.int .i64 t.k, .int .i64 t.i, .slice (some ⟨w.heap.size + 3, 0, none⟩) t.ks.length t.ks.length]) (by simp [results, Try.results34, go_sem, y0, y1, y2]) rfl ?_
          rw [P.out]
          refine ⟨some ⟨w.heap.size + 3, 0, none⟩, t.ks.length, by rw [KL.out]; rfl, ?_, below_set3 hbr _ _ _ (by omega)⟩
          have hs : SameIn (w.heap.size + 3) wr.heap.size wr (((wr.setCell ⟨w.heap.size + 2, 0, none⟩ (.int .i64 t.k)).setCell ⟨w.heap.size + 2, 1, none⟩ (.int .i64 t.i)).setCell ⟨w.heap.size + 2, 2, none⟩ (.slice (some ⟨w.heap.size + 3, 0, none⟩) t.ks.length t.ks.length)) := same_set3 _ _ _ _ _ (by omega)
          have := (OwnT.same _ hs DONE.out).lower (lo' := w.heap.size) (by omega)
          simpa using this
end Go.Proofs.Ytdobpdedphkglaa
