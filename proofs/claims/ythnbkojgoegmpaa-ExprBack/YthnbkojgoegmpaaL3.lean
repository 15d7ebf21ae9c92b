/- The laws ExprDecodes, ExprReads, ExprBack, walked. -/
import Derived.Test.YthnbkojgoegmpaaE23
import Derived.Test.YthnbkojgoegmpaaL2
import Derived.Test.YthnbkojgoegmpaaL1
namespace Go.Proofs.Ythnbkojgoegmpaa
open Go.RowKit
/-- what the shell tells of a slice of integers that came in -/
def IsRow (k : IntKind) (w : World) (a : Option Addr) (len cap : Nat) (zs : List Int) : Prop :=
  (a = none ∧ len = 0 ∧ cap = 0 ∧ zs = []) ∨ ∃ x, a = some x ∧ len ≤ cap ∧ cap ≤ maxLen ∧ zs.length = cap ∧ (∀ i, i < zs.length → w.cell? (x.add i) = some (.int k (zs.getD i 0))) ∧ ∀ n ∈ zs, (Lit.int k n).wf = true
theorem likeB_self (a : Tr) : likeB a a = true := by unfold likeB; exact decide_eq_true (cmpT_self a)
theorem OwnT.is {w w' : World} {t : Tr} {lo hi : Nat} {A : Option Addr} {c : Nat} (h : OwnT w lo hi t A c) (hf : t.fit) (hb : Below w.heap.size w w') (hh : hi ≤ w.heap.size) : IsT w' w'.heap.size t A c :=
  (h.isT _ hh hf).keep hb hb.size
set_option maxHeartbeats 2000000 in
theorem decodes_any (A : Option Addr) (n cap : Nat) (bs : List Nat) (w : World) (hl : bs.length = n) (hb : Bytes bs) (hR : Rd .u8 w w.heap.size A (bcast bs)) (hn : n ≤ maxLen) (hc : n ≤ cap) :
    Calls Try.prog 7 #[.slice A n cap] w fun e w' => e = .returned (.bool true) ∧ Below w.heap.size w w' := by
  have D1 := Lib.hid (decode_any A n cap bs w hl hb hR hn hc)
  have HR := Lib.hid hR
  have L := Lib.hid hl
  clear hl hR
  go_enter Try.func7, Try.ntmps7
  go_wp2_with fail
  refine D1.out.mono ?_
  rintro e w1 ⟨hb1, t, A1, c1, f, hd1, ho1, rfl⟩
  have hb2 : Below w1.heap.size w1 (w1.alloc (.cells #[.int .i64 t.k, .int .i64 t.i, .slice A1 t.ks.length c1] 24)) := (Below.refl _ _).alloc (Nat.le_refl _) _
  have X1 := Lib.hid (Box3.new w1 (.int .i64 t.k) (.int .i64 t.i) (.slice A1 t.ks.length c1))
  have IT := Lib.hid (ho1.is (heads_fit t hd1.heads) hb2 (Nat.le_refl _))
  have hbr : Below w.heap.size w (w1.alloc (.cells #[.int .i64 t.k, .int .i64 t.i, .slice A1 t.ks.length c1] 24)) := hb1.alloc hb1.size _
  have D2 := Lib.hid (rdecode_any A n cap bs (w1.alloc (.cells #[.int .i64 t.k, .int .i64 t.i, .slice A1 t.ks.length c1] 24)) L.out hb ((HR.out.keep hbr (Nat.le_refl _)).keep (Below.refl _ _) hbr.size) hn hc)
  have HD := Lib.hid hd1
  have HBR := Lib.hid hbr
  clear hb1 hb2 hd1 ho1 hbr
  go_wp2_with fail
  refine D2.out.mono ?_
  rintro e w2 ⟨hb3, t', A2, c2, f', hd2, ho2, rfl⟩
  obtain ⟨rfl, rfl⟩ := HD.out.unique hd2
  have hb4 : Below w2.heap.size w2 (w2.alloc (.cells #[.int .i64 t.k, .int .i64 t.i, .slice A2 t.ks.length c2] 24)) := (Below.refl _ _).alloc (Nat.le_refl _) _
  have FT := Lib.hid (heads_fit t hd2.heads)
  have I1 := Lib.hid ((IT.out.keep hb3 hb3.size).keep hb4 hb4.size)
  have I2 := Lib.hid (ho2.is FT.out hb4 (Nat.le_refl _))
  have X2 := (X1.out.keep hb3 (by simp)).keep hb4 (by have := hb3.size; simp at this; omega)
  obtain ⟨x0, x1, x2⟩ := X2.cells
  have HB5 := Lib.hid ((HBR.out.trans (hb3.mono HBR.out.size)).trans (hb4.mono (Nat.le_trans HBR.out.size hb3.size)))
  clear X2 hb3 hb4 ho2 hd2
  go_wp2_with fail
  refine (like_any t t A1 A2 c1 c2 _ (by exact I1.out) (by exact I2.out)).mono ?_
  rintro e w3 ⟨rfl, hb6⟩
  rw [likeB_self]
  have HB7 := Lib.hid (HB5.out.trans (hb6.mono HB5.out.size))
  clear hb6
  go_wp2_with fail
  go_ret
  exact ⟨rfl, HB7.out⟩
theorem decodes_row (a : Option Addr) (l c : Nat) (zs : List Int) (w : World) (h : IsRow .u8 w a l c zs) :
    Calls Try.prog 7 #[.slice a l c] w fun e w' => e = .returned (.bool true) ∧ Below w.heap.size w w' := by
  obtain ⟨bs, h1, h2, h3, h4, h5⟩ := rd_of_row h
  exact decodes_any a l c bs w h1 h2 h3 h5 h4
theorem rdH_err_ne (bs : List Nat) : ∀ (r m p f : Nat), rdH bs r m p = .error f → f ≠ 0 := by
  intro r
  induction r with
  | zero =>
    intro m p f h
    cases m with
    | zero => rw [rdH_zero] at h; cases h
    | succ m => rw [rdH_full] at h; cases h; decide
  | succ r ih =>
    intro m p f h
    cases m with
    | zero => rw [rdH_zero] at h; cases h
    | succ m =>
      by_cases he : (getN (bs.drop p)).err = 0
      · by_cases h1 : 4294967295 < (getN (bs.drop p)).val
        · rw [rdH_big _ _ _ _ he h1] at h; cases h; decide
        · rw [rdH_more _ _ _ _ he h1] at h
          cases hr : rdH bs r (m + (getN (bs.drop p)).val % 256) (p + (getN (bs.drop p)).len) with
          | error e => rw [hr] at h; cases h; exact ih _ _ _ hr
          | ok x => rw [hr] at h; cases h
      · rw [rdH_err _ _ _ _ he] at h; cases h; exact he
theorem DecR.ok {bs : List Nat} {t : Tr} (hb : ∀ b ∈ bs, b < 256) (h : DecR bs t 0) : rightN t = 0 ∧ t.enc = bs := by
  unfold DecR at h
  cases hr : rdH bs 1000 1 0 with
  | error e => rw [hr] at h; exact absurd h.2.symm (rdH_err_ne bs _ _ _ _ hr)
  | ok x =>
    obtain ⟨hs, q⟩ := x
    rw [hr] at h
    obtain ⟨t1, h1, _, _, _, h5⟩ := rdH_one hb hr
    rcases h with ⟨_, _, h⟩ | ⟨hq, t0, ht, _, ⟨h2, _, h3⟩ | ⟨h2, h3, _⟩⟩
    · cases h
    · exact absurd h3.symm h2
    · obtain rfl : t0 = t1 := hds_inj _ _ (ht.trans h1.symm)
      rw [h3]
      refine ⟨h2, ?_⟩
      rw [hq, List.drop_length, List.append_nil] at h5
      exact h5.symm
set_option maxHeartbeats 2000000 in
theorem reads_any (A : Option Addr) (n cap : Nat) (bs : List Nat) (w : World) (hl : bs.length = n) (hb : Bytes bs) (hR : Rd .u8 w w.heap.size A (bcast bs)) (hn : n ≤ maxLen) (hc : n ≤ cap) :
    Calls Try.prog 9 #[.slice A n cap] w fun e w' => e = .returned (.bool true) ∧ Below w.heap.size w w' := by
  have D1 := Lib.hid (rdecode_any A n cap bs w hl hb hR hn hc)
  have HR := Lib.hid hR
  have L := Lib.hid hl
  clear hl hR
  go_enter Try.func9, Try.ntmps9
  go_wp2_with fail
  refine D1.out.mono ?_
  rintro e w1 ⟨hb1, t, A1, c1, f, hd1, ho1, rfl⟩
  have hbr : Below w.heap.size w (w1.alloc (.cells #[.int .i64 t.k, .int .i64 t.i, .slice A1 t.ks.length c1] 24)) := hb1.alloc hb1.size _
  have D2 := Lib.hid (decode_any A n cap bs (w1.alloc (.cells #[.int .i64 t.k, .int .i64 t.i, .slice A1 t.ks.length c1] 24)) L.out hb ((HR.out.keep hbr (Nat.le_refl _)).keep (Below.refl _ _) hbr.size) hn hc)
  have HD := Lib.hid hd1
  have HBR := Lib.hid hbr
  clear hb1 hd1 ho1 hbr
  go_wp2_with fail
  refine D2.out.mono ?_
  rintro e w2 ⟨hb3, t', A2, c2, f', hd2, ho2, rfl⟩
  obtain ⟨rfl, rfl⟩ := HD.out.unique hd2
  have hb4 : Below w2.heap.size w2 (w2.alloc (.cells #[.int .i64 t.k, .int .i64 t.i, .slice A2 t.ks.length c2] 24)) := (Below.refl _ _).alloc (Nat.le_refl _) _
  have FT := Lib.hid (heads_fit t hd2.heads)
  have I2 := Lib.hid (ho2.is FT.out hb4 (Nat.le_refl _))
  have X2 := Lib.hid (Box3.new w2 (.int .i64 t.k) (.int .i64 t.i) (.slice A2 t.ks.length c2))
  have HB5 := Lib.hid ((HBR.out.trans (hb3.mono HBR.out.size)).trans (hb4.mono (Nat.le_trans HBR.out.size hb3.size)))
  have HD2 := Lib.hid hd2
  clear hb3 hb4 ho2 hd2
  by_cases h0 : f = 0
  · subst h0
    obtain ⟨hr0, henc⟩ := HD2.out.ok hb
    have R0 := Lib.hid hr0
    have EN := Lib.hid henc
    clear hr0 henc
    go_wp2_with fail
    refine (encode_any t A2 c2 _ (by exact I2.out)).mono ?_
    rintro e w3 ⟨v3, l3, rfl, hl3, o3, hb6⟩
    rw [R0.out]
    obtain rfl : l3 = bs := by rw [hl3, if_pos R0.out]; exact EN.out
    have X3 := X2.out.keep hb6 (by simp)
    obtain ⟨x0, x1, x2⟩ := X3.cells
    have I3 := Lib.hid (I2.out.keep hb6 hb6.size)
    have HB7 := Lib.hid (HB5.out.trans (hb6.mono HB5.out.size))
    obtain ⟨A4, c4, rfl, R4⟩ := rd_own o3
    have k1 := conv_bytes (c := c4) rfl R4
    have k2 := conv_bytes (c := cap) L.out (HR.out.keep HB7.out (Nat.le_refl _))
    clear X3 hb6 o3 hl3 R4
    go_wp2_with fail
    refine (right_any t A2 c2 _ (by exact I3.out)).mono ?_
    rintro e w4 ⟨rfl, hb8⟩
    rw [R0.out]
    have HB9 := Lib.hid (HB7.out.trans (hb8.mono HB7.out.size))
    clear hb8 k1 k2
    go_wp2_with fail
    go_ret
    exact ⟨rfl, HB9.out⟩
  · have h1 : ((f : Int) != 0) = true := by rw [bne_iff_ne]; omega
    go_wp2_with fail
    go_ret
    exact ⟨by first | rfl | simp, HB5.out⟩
theorem reads_row (a : Option Addr) (l c : Nat) (zs : List Int) (w : World) (h : IsRow .u8 w a l c zs) :
    Calls Try.prog 9 #[.slice a l c] w fun e w' => e = .returned (.bool true) ∧ Below w.heap.size w w' := by
  obtain ⟨bs, h1, h2, h3, h4, h5⟩ := rd_of_row h
  exact reads_any a l c bs w h1 h2 h3 h5 h4
end Go.Proofs.Ythnbkojgoegmpaa
