/- The walk of WordOwn: lists and bytes that are answered are new memory. -/
import Derived.Test.YtpahkgcndlccnaaW12
namespace Go.Proofs.Ytpahkgcndlccnaa
open Go.RowKit
theorem grown_set (w : World) (p : Addr) (u : Value) : w.grownBy (w.setCell p u) (some p.block) :=
  ⟨rfl, rfl, rfl, by simp [World.setCell], fun i _ hne => Below.heap_setCell w p u i (fun e => hne (by rw [e]))⟩
theorem grown_below {w w' : World} (h : Below w.heap.size w w') : w.grownBy w' none := ⟨h.os, h.tape, h.output, h.size, fun i hi _ => h.block i hi⟩
theorem own_below {w w' : World} {B : Nat} {t : TypeId} {v : Value} {n : Nat} {xs : List Value} (h : w.ownsRow B t 1 v n xs) (hb : Below w.heap.size w w') : w'.ownsRow B t 1 v n xs :=
  h.kept (grown_below hb) (by
    cases e : v.ownBlock with
    | none => exact .inl rfl
    | some g => exact .inr (by simp))
/-- what is owned is a slice; where it has elements, it stands at a row's head -/
theorem own_slice {w : World} {B : Nat} {t : TypeId} {v : Value} {n : Nat} {xs : List Value} (h : w.ownsRow B t 1 v n xs) :
    ∃ A c, v = .slice A n c ∧ n ≤ c ∧ c ≤ maxLen ∧ (0 < n → ∃ g, A = some ⟨g, 0, none⟩ ∧ B ≤ g ∧ g < w.heap.size) := by
  rcases own_form h with ⟨rfl, rfl⟩ | ⟨g, cap, rfl, hb, h1, h2, _⟩
  · exact ⟨none, 0, rfl, Nat.le_refl _, by unfold maxLen; omega, fun h => absurd h (by omega)⟩
  · exact ⟨_, cap, rfl, h1, h2, fun _ => ⟨g, rfl, hb, (h.lt g rfl).2⟩⟩
/-- an element of what is owned may be written -/
theorem own_write {w : World} {B g n c : Nat} {t : TypeId} {xs : List Value} (h : w.ownsRow B t 1 (.slice (some ⟨g, 0, none⟩) n c) n xs) (k : Nat) (hk : k < n) (u : Value) :
    (∃ o, w.cell? ⟨g, k, none⟩ = some o) ∧ w.frozen? ⟨g, k, none⟩ = false ∧ ∃ ys, (w.setCell ⟨g, k, none⟩ u).ownsRow B t 1 (.slice (some ⟨g, 0, none⟩) n c) n ys := by
  have hl := h.1
  refine ⟨?_, h.frozenAt k, _, (h.stored k u).1⟩
  rw [h.cellAt k (by omega)]
  exact ⟨_, List.getElem?_eq_getElem (by omega)⟩
theorem own_far {w : World} {B B' g : Nat} {t : TypeId} {v : Value} {n : Nat} {xs : List Value} (h : w.ownsRow B t 1 v n xs) (hne : ∀ k, v.ownBlock = some k → k ≠ g) (k : Nat) (u : Value) (_hB : B' = B) :
    (w.setCell ⟨g, k, none⟩ u).ownsRow B t 1 v n xs :=
  h.kept (grown_set w _ u) (by
    cases e : v.ownBlock with
    | none => exact .inl rfl
    | some x => exact .inr (fun e' => hne x e (by injection e')))
set_option maxHeartbeats 4000000 in
set_option maxRecDepth 100000 in
theorem own_any (s q : Nat) (w : World) (hs : U64 s) (hq : U64 q) :
    Calls Try.prog 17 #[.int .u64 s, .int .u64 q] w fun e w' => e = .returned (.bool true) ∧ Below w.heap.size w w' := by
  obtain ⟨i0, hi, hz0, hz1, hz2⟩ := info_parts Try.info_int
  have LL := Lib.hid (listTo_le s 64)
  have PL := Lib.hid (putN_len q)
  go_enter Try.func17, Try.ntmps17
  go_wp2_with fail
  refine (list_any _ _ hs).mono ?_
  rintro e w1 ⟨v1, rfl, o1, b1⟩
  obtain ⟨A1, c1, rfl, hc1, hm1, f1⟩ := own_slice o1
  have O1 := Lib.hid o1
  have F1 := Lib.hid f1
  have AL := Lib.hid (fun x hx => (o1.lt x hx).2)
  clear o1 f1
  go_wp2_with fail
  refine (list_any _ _ hs).mono ?_
  rintro e w2 ⟨v2, rfl, o2, b2⟩
  have hle : (listN s).length ≤ 64 := LL.out
  have HB2 : Below w.heap.size w w2 := b1.trans (b2.mono b1.size)
  have O1' := Lib.hid (own_below O1.out b2)
  have O2 := Lib.hid o2
  clear o2 O1 b2
  generalize hn : (listN s).length = n at *
  have LN := Lib.hid hn
  clear hn
  go_wp2
  go_loopw [17] (fun i wr => ∃ (k : Nat) (xs : List Value), k ≤ n ∧ i = .int .i64 k ∧ wr.ownsRow w.heap.size 3 1 (.slice A1 n c1) n xs ∧ wr.ownsRow w1.heap.size 3 1 v2 n (icells (listN s)) ∧ Below w.heap.size w wr) (fun i _ => n - (intOf i).toNat)
  case atStart => exact ⟨0, _, Nat.zero_le _, rfl, O1'.out, O2.out, HB2⟩
  case round =>
    obtain ⟨k, xs, hk, rfl, o1, o2, hnx⟩ := hrel
    clear O1' O2 HB2
    by_cases hlt : k < n
    · obtain ⟨g, rfl, hg0, hg1⟩ := F1.out (by omega)
      obtain ⟨⟨o, hc⟩, hfz, ys, o1'⟩ := own_write o1 k hlt (.int .i64 (-5))
      have O1' := Lib.hid o1'
      have O2' := Lib.hid (own_far (B' := w1.heap.size) o2 (fun x hx e => by have := (o2.lt x hx).1; omega) k (.int .i64 (-5)) rfl : (wr.setCell ⟨g, k, none⟩ (.int .i64 (-5))).ownsRow w1.heap.size 3 1 v2 n (icells (listN s)))
      have N' := Lib.hid (hnx.setCell (p := ⟨g, k, none⟩) hg0 (.int .i64 (-5)))
      clear o1 o1' o2 hnx
      go_wp2
      go_roundw
      case rel => exact ⟨k + 1, ys, by omega, by go_num, O1'.out, O2'.out, N'.out⟩
      case measure => simp [intOf]; omega
    · obtain rfl : k = n := by omega
      have hsz := hnx.size
      go_wp2_with (at_builtin; refine wpList_append_own _ rfl (.tmp 24) (.tmp 25) 22 rfl w.heap.size 3 i0 (.int .i64 0) 1 8 Try.underlying22 hi hz0 hz1 hz2 rfl (by decide) (.slice A1 k c1) k xs rfl (o1.alloc _) ⟨wr.heap.size, 0, none⟩ 1 1 [.int .i64 7] rfl rfl (cell_one_new _ _ _) ?c2 ?c3 ?c4 ?c5 ?_)
      case c2 => intro u hu; simp at hu; subst hu; rfl
      case c3 => unfold maxLen; omega
      case c4 => omega
      case c5 => simp; omega
      intro v3 w3 o3 hg3 _
      have B3 : Below w.heap.size w w3 := own_step o1 hnx (Nat.le_refl _) hg3
      have W3 := Lib.hid B3.size
      have O2 := Lib.hid ((o2.alloc _).kept hg3 (by
        cases e : v2.ownBlock with
        | none => exact .inl rfl
        | some x => exact .inr (fun e' => by
            have h1 := (o2.lt x e).1
            have h2 := AL.out x e'.symm
            omega)) : w3.ownsRow w1.heap.size 3 1 v2 k (icells (listN s)))
      obtain ⟨A3, c3, rfl, _, _, _⟩ := own_slice o3
      clear o1 o2 o3 hg3 hnx
      go_wp2_with fail
      refine (put_any _ _ hq).mono ?_
      rintro e w4 ⟨v4, rfl, o4, b4⟩
      obtain ⟨A4, c4, rfl, hc4, _, f4⟩ := own_slice o4
      have F4 := Lib.hid f4
      have O2b := Lib.hid (own_below O2.out b4)
      have H2 := Lib.hid (fun x hx => (O2.out.lt x hx).2)
      have O4 := Lib.hid o4
      have B4 : Below w.heap.size w w4 := B3.trans (b4.mono B3.size)
      clear o4 f4 O2 B3
      go_wp2_with fail
      refine (put_any _ _ hq).mono ?_
      rintro e w5 ⟨v5, rfl, o5, b5⟩
      have O2c := Lib.hid (own_below O2b.out b5)
      have O4b := Lib.hid (own_below O4.out b5)
      have O5 := Lib.hid o5
      have B5 : Below w.heap.size w w5 := B4.trans (b5.mono B4.size)
      have S43 := Lib.hid b4.size
      obtain ⟨hp1, hp2⟩ := PL.out
      generalize hp : (putN q).length = p at *
      have LP := Lib.hid hp
      clear o5 O2b O4 B4 b4 b5 hp
      go_wp2
      go_loopw [33] (fun i wx => ∃ (j : Nat) (ys : List Value), j ≤ p ∧ i = .int .i64 j ∧ wx.ownsRow w3.heap.size 5 1 (.slice A4 p c4) p ys ∧ wx.ownsRow w1.heap.size 3 1 v2 k (icells (listN s)) ∧ wx.ownsRow w4.heap.size 5 1 v5 p (bcells (putN q)) ∧ Below w.heap.size w wx) (fun i _ => p - (intOf i).toNat)
      case atStart => exact ⟨0, _, Nat.zero_le _, rfl, O4b.out, O2c.out, O5.out, B5⟩
      case round =>
        obtain ⟨j, ys, hj, rfl, o4, o2, o5, hnx⟩ := hrel
        clear O4b O2c O5 B5
        by_cases hjt : j < p
        · obtain ⟨g, rfl, hg0, hg1⟩ := F4.out (by omega)
          obtain ⟨⟨o, hc⟩, hfz, zs, o4'⟩ := own_write o4 j hjt (.int .u8 1)
          have O4' := Lib.hid o4'
          have O2' := Lib.hid (own_far (B' := w1.heap.size) o2 (fun x hx e => by have := H2.out x hx; omega) j (.int .u8 1) rfl : (wr.setCell ⟨g, j, none⟩ (.int .u8 1)).ownsRow w1.heap.size 3 1 v2 k (icells (listN s)))
          have O5' := Lib.hid (own_far (B' := w4.heap.size) o5 (fun x hx e => by have := (o5.lt x hx).1; omega) j (.int .u8 1) rfl : (wr.setCell ⟨g, j, none⟩ (.int .u8 1)).ownsRow w4.heap.size 5 1 v5 p (bcells (putN q)))
          have N' := Lib.hid (hnx.setCell (p := ⟨g, j, none⟩) (Nat.le_trans W3.out hg0) (.int .u8 1))
          clear o4 o4' o2 o5 hnx
          go_wp2
          go_roundw
          case rel => exact ⟨j + 1, zs, by omega, by go_num, O4'.out, O2'.out, O5'.out, N'.out⟩
          case measure => simp [intOf]; omega
        · obtain rfl : j = p := by omega
          have hl2 : (bcast (listN s)).length = k := by rw [bcast_len, LN.out]
          have hl5 : (bcast (putN q)).length = j := by rw [bcast_len, LP.out]
          rw [icells_eq] at o2
          rw [bcells_eq] at o5
          obtain ⟨A2, c2, rfl, r2, _, m2⟩ := rd_of_own hl2 o2
          obtain ⟨A5, c5, rfl, r5, _, m5⟩ := rd_of_own hl5 o5
          have L2 := Lib.hid hl2
          have L5 := Lib.hid hl5
          have R2 := Lib.hid r2
          have R5 := Lib.hid r5
          have M2 := Lib.hid m2
          have hpos : (0 : Int) < (k : Int) + 1 := by omega
          clear o2 o4 o5 r2 r5 m2 m5 hl2 hl5
          go_wp2_with fail
          refine (rlist_any _ _ hs).mono ?_
          intro e w7 h7
          obtain ⟨A7, c7, rfl, r7, _, m7, b7⟩ := h7.rd
          rw [LN.out] at m7 ⊢
          have R7 := Lib.hid r7
          have N7 := Lib.hid (hnx.trans (b7.mono hnx.size))
          have R2b := Lib.hid ((R2.out.keep b7 (Nat.le_refl _)).wide b7.size)
          have R5b := Lib.hid ((R5.out.keep b7 (Nat.le_refl _)).wide b7.size)
          clear h7 r7 b7 R2 R5 hnx
          go_wp2_with fail
          refine (same_ints _ _ _ _ _ (bcast (listN s)) _ R2b.out R7.out L2.out M2.out).mono ?_
          rintro e w8 ⟨rfl, b8⟩
          have N8 := Lib.hid (N7.out.trans (b8.mono N7.out.size))
          have R2c := Lib.hid ((R2b.out.keep b8 (Nat.le_refl _)).wide b8.size)
          have R5c := Lib.hid ((R5b.out.keep b8 (Nat.le_refl _)).wide b8.size)
          clear b8 R2b R5b R7 N7
          go_wp2_with fail
          refine (list_any _ _ hs).mono ?_
          intro e w9 h9
          obtain ⟨A9, c9, rfl, r9, _, m9, b9⟩ := h9.rd
          rw [LN.out] at m9 ⊢
          have R9 := Lib.hid r9
          have N9 := Lib.hid (N8.out.trans (b9.mono N8.out.size))
          have R2d := Lib.hid ((R2c.out.keep b9 (Nat.le_refl _)).wide b9.size)
          have R5d := Lib.hid ((R5c.out.keep b9 (Nat.le_refl _)).wide b9.size)
          clear h9 r9 b9 R2c R5c N8
          go_wp2_with fail
          refine (same_ints _ _ _ _ _ (bcast (listN s)) _ R9.out R2d.out L2.out M2.out).mono ?_
          rintro e w10 ⟨rfl, b10⟩
          have N10 := Lib.hid (N9.out.trans (b10.mono N9.out.size))
          have R5e := Lib.hid ((R5d.out.keep b10 (Nat.le_refl _)).wide b10.size)
          clear b10 R2d R5d R9 N9
          go_wp2_with fail
          refine (rput_any _ _ hq).mono ?_
          intro e w11 h11
          obtain ⟨A11, c11, rfl, r11, _, _, b11⟩ := h11.rd
          have R11 := Lib.hid r11
          have N11 := Lib.hid (N10.out.trans (b11.mono N10.out.size))
          have R5f := Lib.hid ((R5e.out.keep b11 (Nat.le_refl _)).wide b11.size)
          clear h11 r11 b11 R5e N10
          go_wp2_with fail
          refine (same_bytes _ _ _ _ _ _ (putN q) _ _ _ R5f.out R11.out LP.out rfl).mono ?_
          rintro e w' ⟨rfl, rfl⟩
          go_wp2_with fail
          refine (put_any _ _ hq).mono ?_
          intro e w12 h12
          obtain ⟨A12, c12, rfl, r12, _, _, b12⟩ := h12.rd
          have R12 := Lib.hid r12
          have N12 := Lib.hid (N11.out.trans (b12.mono N11.out.size))
          have R5g := Lib.hid ((R5f.out.keep b12 (Nat.le_refl _)).wide b12.size)
          clear h12 r12 b12 R5f N11
          go_wp2_with fail
          refine (same_bytes _ _ _ _ _ _ (putN q) _ _ _ R12.out R5g.out rfl LP.out).mono ?_
          rintro e w' ⟨rfl, rfl⟩
          go_wp2_with fail
          go_ret
          exact ⟨rfl, N12.out⟩
end Go.Proofs.Ytpahkgcndlccnaa
