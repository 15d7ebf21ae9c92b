/- The walk of WordBack. -/
import Derived.Test.YtpahkgcndlccnaaW12
import Derived.Test.YtpahkgcndlccnaaMath4
import Derived.Test.YtpahkgcndlccnaaW6
import Derived.Deep.RegionWith
import Derived.Deep.RegionHeld3
import Derived.Deep.DeepCutAuto
import Derived.Laws.AppendOwnNone
namespace Go.Proofs.Ytpahkgcndlccnaa
open Go.RowKit
/-- what is owned stays owned while new blocks come, and reads as before -/
theorem Rd.cells {k : IntKind} {w : World} {B : Nat} {A : Option Addr} {zs : List Int} (h : Rd k w B A zs) {ad : Addr} (e : A = some ad) : ∀ j u, (zs.map (Value.int k))[j]? = some u → w.cell? (ad.add j) = some u := fun j u hu => by
  have hj : j < zs.length := by
    rcases Nat.lt_or_ge j zs.length with h | h
    · exact h
    · rw [List.getElem?_eq_none (by simpa using h)] at hu; cases hu
  obtain ⟨ad', e', _, hc⟩ := h j hj
  rw [e] at e'
  injection e' with e'
  subst e'
  rw [List.getElem?_map, List.getElem?_eq_getElem hj] at hu
  rw [hc, ← hu, List.getD_eq_getElem?_getD, List.getElem?_eq_getElem hj]
  rfl
theorem bcells_one (l : List Nat) : ∀ u ∈ bcells l, u.oneCell' = true := fun u hu => by
  unfold bcells at hu
  obtain ⟨n, _, rfl⟩ := List.mem_map.1 hu
  rfl
/-- bytes put behind what is owned, the slice that they come from nil or not -/
theorem append_rd {w : World} {ops : Array Oper} {rest : List Oper} {o : Oper} {a : Act} {Q : Exit → Act → World → Prop} (hgd : o.guard = none) (s x : Operand)
    (ho : o.op = .call { callee := .builtin .append, args := #[s, x], argTypes := #[41, 41] })
    (base : Nat) (v : Value) (n : Nat) (xs : List Value) (hs : a.eval s = v) (hown : w.ownsRow base 5 1 v n xs) (B : Nat) (A : Option Addr) (m c : Nat) (bs : List Nat)
    (hx : a.eval x = .slice A m c) (hnone : A = none → m = 0 ∧ c = 0) (hr : Rd .u8 w B A (bcast bs)) (hl : bs.length = m) (hsum : n + m ≤ 140737488355328) (hbase : base ≤ w.heap.size)
    (h : ∀ v' w', w'.ownsRow base 5 1 v' (n + m) (xs ++ bcells bs) → w.grownBy w' v.ownBlock → wpList Try.prog ops Q rest (a.put o.dst v') w') : wpList Try.prog ops Q (o :: rest) a w := by
  obtain ⟨i0, hi, hz0, hz1, hz2⟩ := info_parts Try.info_byte
  cases A with
  | none =>
    obtain ⟨rfl, rfl⟩ := hnone rfl
    have e : bs = [] := List.eq_nil_of_length_eq_zero hl
    subst e
    refine wpList_append_own_none hgd s x _ ho base 5 i0 1 Try.underlying41 hi v n xs hs hown hx ?_
    exact h v w (by simpa [bcells] using hown) (World.grownBy.refl w _)
  | some ad =>
    refine wpList_append_own w hgd s x _ ho base 5 i0 (.int .u8 0) 1 1 Try.underlying41 hi hz0 hz1 hz2 rfl (by decide) v n xs hs hown ad m c (bcells bs) hx (by rw [bcells_eq, List.length_map, bcast_len, hl]; omega) (by rw [bcells_eq]; exact hr.cells rfl) (bcells_one _) (by unfold maxLen; omega) (by omega) hbase ?_
    intro v' w' h1 h2 _
    exact h v' w' h1 h2
set_option maxHeartbeats 2000000 in
set_option maxRecDepth 100000 in
theorem back_any (n : Nat) (A : Option Addr) (len cap : Nat) (bs : List Nat) (w : World) (hn : U64 n) (hl : bs.length = len) (hb : Bytes bs) (hr : Rd .u8 w w.heap.size A (bcast bs)) (hcap : len ≤ cap) (hnone : A = none → len = 0 ∧ cap = 0) (hreach : cap ≤ 140737488351232) :
    Calls Try.prog 9 #[.int .u64 n, .slice A len cap] w fun e w' => e = .returned (.bool true) ∧ Below w.heap.size w w' := by
  have L := Lib.hid hl
  have R := Lib.hid hr
  have NO := Lib.hid hnone
  have PL := Lib.hid (putN_len n)
  have PB := Lib.hid (putN_byte n hn)
  have G1 := Lib.hid (getN_put n bs hn)
  have G2 := Lib.hid (getN_short n hn)
  clear hl hr hnone
  go_enter Try.func9, Try.ntmps9
  go_wp2_with fail
  refine (put_any _ _ hn).mono ?_
  intro e w1 h1
  obtain ⟨A1, c1, rfl, r1, hc1, _, b1⟩ := h1.rd
  clear h1
  have R1 := Lib.hid r1
  clear r1
  obtain ⟨p1, p2⟩ := PL.out
  obtain ⟨ad1, rfl⟩ : ∃ ad, A1 = some ad := by
    obtain ⟨ad, e, _⟩ := R1.out 0 (by rw [bcast_len]; omega)
    exact ⟨ad, e⟩
  have RM := Lib.hid (R.out.keep b1 (Nat.le_refl _))
  clear R
  generalize hm : (putN n).length = m at *
  have LM := Lib.hid hm
  clear hm
  have OWN := Lib.hid (own_none w1 w1.heap.size (Nat.le_refl _) 5)
  have RA := Lib.hid (R1.out.keep ((Below.refl w1.heap.size w1).alloc (Nat.le_refl _) (.cells #[] 5)) (Nat.le_refl _))
  go_wp2_with (first
    | (at_builtin; refine append_rd rfl (.tmp 20) (.tmp 21) rfl w1.heap.size (.slice (some ⟨w1.heap.size, 0, none⟩) 0 0) 0 [] rfl OWN.out w1.heap.size (some ad1) m c1 (putN n) rfl (fun h => by cases h) RA.out LM.out (by omega) (by simp) ?_; intro v2 w2 hown2 hg2; have B2 : Below w1.heap.size w1 w2 := ((Below.refl _ _).alloc (Nat.le_refl _) _).grown hg2 (by simp) (fun k hk => Nat.le_of_eq (Option.some.inj hk)); have RM2 := Lib.hid ((RM.out.wide b1.size).keep B2 (Nat.le_refl _)); clear hg2)
    | (at_builtin; refine append_rd rfl (.tmp 23) (.tmp 24) rfl w1.heap.size v2 (0 + m) ([] ++ bcells (putN n)) rfl hown2 w1.heap.size A len cap bs rfl NO.out RM2.out L.out (by omega) B2.size ?_; intro v3 w3 hown3 hg3; have B3 : Below w1.heap.size w1 w3 := B2.grown hg3 B2.size (fun k hk => (hown2.lt k hk).1); clear hg3))
  clear hown2 OWN RA
  have HP := Lib.hid (show (bcast (putN n ++ bs)).length = 0 + m + len by rw [bcast_len, List.length_append, LM.out, L.out]; omega)
  rw [List.nil_append, ← bcells_app, bcells_eq] at hown3
  obtain ⟨A3, c3, rfl, r3, _, _⟩ := rd_of_own HP.out hown3
  have R3 := Lib.hid r3
  have RB := Lib.hid (R1.out.keep B3 (Nat.le_refl _))
  have RC := Lib.hid ((RM.out.wide b1.size).keep B3 (Nat.le_refl _))
  clear r3 hown3 R1 RM RM2 B2
  have PBs : Bytes (putN n ++ bs) := fun b h => by
    rcases List.mem_append.1 h with h | h
    · exact PB.out b h
    · exact hb b h
  refine (get_any _ _ _ (putN n ++ bs) _ _ (by have := HP.out; rw [bcast_len] at this; exact this) PBs R3.out (by unfold maxLen; omega)).mono ?_
  rintro e w' ⟨rfl, rfl⟩
  rw [G1.out]
  go_wp2_with fail
  refine (get_any _ (m - 1) _ ((putN n).take (m - 1)) _ _ (by rw [List.length_take, LM.out]; omega) (Bytes.take PB.out _) (by rw [bcast_take]; exact RB.out.take _) (by unfold maxLen; omega)).mono ?_
  rintro e w' ⟨rfl, rfl⟩
  rw [G2.out]
  go_wp2_with fail
  refine (get_any _ _ _ bs _ _ L.out hb RC.out (by unfold maxLen; omega)).mono ?_
  rintro e w' ⟨rfl, rfl⟩
  have BW : Below w.heap.size w w3 := b1.trans (B3.mono b1.size)
  by_cases he : (getN bs).err = 0
  · obtain ⟨hvU, hkl, hkb, hpt⟩ := getN_back bs hb he
    have hk1 : 1 ≤ (getN bs).len := by rw [hkl]; exact (putN_len _).1
    rw [L.out] at hkb
    have TK := Lib.hid hpt
    have KL := Lib.hid hkl
    rw [he]
    generalize (getN bs).val = v0 at *
    generalize (getN bs).len = k0 at *
    have d1 : (1 : Int) ≤ (k0 : Int) := by omega
    have d2 : (k0 : Int) ≤ (len : Int) := by omega
    have d0 : (0 : Int) ≤ (k0 : Int) := by omega
    have d5 : (k0 : Int) ≤ (cap : Int) := by omega
    have d6 : k0 ≤ cap := by omega
    have d3 : decide ((1 : Int) ≤ (k0 : Int)) = true := decide_eq_true d1
    have d4 : decide ((k0 : Int) ≤ (len : Int)) = true := decide_eq_true d2
    have RT : Hid (Rd .u8 w3.drew w1.heap.size A (bcast (putN v0))) := by show Rd .u8 w3 w1.heap.size A (bcast (putN v0)); rw [TK.out, bcast_take]; exact RC.out.take _
    have S3 := Lib.hid B3.size
    clear hpt hkl he G1 G2 PL PB HP R3 RB TK
    go_wp2
    go_region_held3 (fun _ => True) (exact trivial) (first
      | (go_at_call 39; refine (put_any _ _ hvU).mono ?_; intro e w4 h4; obtain ⟨A4, c4, rfl, r4, _, _, b4⟩ := h4.rd; have R4 := Lib.hid r4; clear h4 r4)
      | (go_at_call 38; refine (same_bytes _ _ _ _ _ _ (putN v0) _ _ _ R4.out (RT.out.keep b4 S3.out) rfl KL.out.symm).mono ?_; rintro e w' ⟨rfl, rfl⟩))
    all_goals
      go_wp2
      go_ret
      exact ⟨rfl, BW.drew.trans (b4.mono BW.size)⟩
  · have hz := getN_err bs he
    rw [hz.1, hz.2]
    have b0 : (((getN bs).err : Int) != 0) = true := by rw [bne_iff_ne]; omega
    generalize (getN bs).err = e0 at *
    clear he hz
    go_wp2
    go_ret
    exact ⟨rfl, BW⟩
end Go.Proofs.Ytpahkgcndlccnaa
