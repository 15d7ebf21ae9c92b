/- The law ExprBack, walked. -/
import Derived.Test.YthnbkojgoegmpaaL3
namespace Go.Proofs.Ythnbkojgoegmpaa
open Go.RowKit
theorem enc_bytes (t : Tr) (h : t.heads) : Bytes t.enc := by
  have hl : ∀ l : List Tr, (∀ q ∈ l, q.heads → Bytes q.enc) → headsL l → Bytes (encL l) := by
    intro l
    induction l with
    | nil => intro _ _ b hb; simp [encL] at hb
    | cons x r ih =>
      intro hq hh b hb
      rw [encL, List.mem_append] at hb
      rcases hb with hb | hb
      · exact hq x (by simp) hh.1 b hb
      · exact ih (fun q hq' => hq q (by simp [hq'])) hh.2 b hb
  induction t using Tr.ind with
  | h t ih =>
    intro b hb
    obtain ⟨h1, h2⟩ := (heads_eq t).1 h
    rw [enc_eq, List.mem_append] at hb
    rcases hb with hb | hb
    · exact putN_byte _ (U64_head t h1) b hb
    · exact hl t.ks (fun q hq hh => ih q hq hh) h2 b hb
/-- what is right is read back from its bytes -/
theorem dec_enc (t : Tr) (h : rightN t = 0) : DecR t.enc t 0 := by
  obtain ⟨hs, hsh⟩ := right_zero t h
  have hh := shp_heads t hsh
  have := rdH_enc t.enc 1000 [t] 0 [] (by simpa [szL] using hs) ⟨hh, trivial⟩ (by simp [encL])
  have e : rdH t.enc 1000 1 0 = .ok (t.hds, t.enc.length) := by simpa [hdsL, encL] using this
  unfold DecR
  rw [e]
  exact .inr ⟨rfl, t, rfl, hh, .inr ⟨h, rfl, rfl⟩⟩
theorem enc_inj (a b : Tr) (ha : rightN a = 0) (hb : rightN b = 0) (h : a.enc = b.enc) : a = b := by
  have h1 := dec_enc a ha
  rw [h] at h1
  exact (h1.unique (dec_enc b hb)).1
theorem bstr_inj {a b : List Nat} (ha : Bytes a) (hb : Bytes b) (h : bstr a = bstr b) : a = b := by
  have h1 : ∀ l : List Nat, Bytes l → ((bstr l).data.toList.map fun x => x.toNat) = l := by
    intro l hl
    show ((bcast l).map fun n => UInt8.ofNat n.toNat).map (fun x => x.toNat) = l
    unfold bcast
    rw [List.map_map, List.map_map]
    conv => rhs; rw [← List.map_id l]
    refine List.map_congr_left fun n hn => ?_
    have := hl n hn
    simp
    omega
  rw [← h1 a ha, ← h1 b hb, h]
theorem rd_own' {w : World} {B : Nat} {v : Value} {l : List Nat} (h : w.ownsRow B 5 1 v l.length (bcells l)) : ∃ A c, v = .slice A l.length c ∧ Rd .u8 w w.heap.size A (bcast l) ∧ l.length ≤ c ∧ l.length ≤ maxLen := by
  obtain ⟨A, c, e, hr⟩ := rd_own h
  refine ⟨A, c, e, hr, ?_⟩
  rcases own_form h with ⟨e2, hn⟩ | ⟨g, cap, e2, _, hn, hm, _⟩
  · exact ⟨by omega, by omega⟩
  · rw [e] at e2
    cases e2
    exact ⟨hn, by omega⟩
theorem Rd.up {w w' : World} {A : Option Addr} {zs : List Int} (h : Rd .u8 w w.heap.size A zs) (hb : Below w.heap.size w w') : Rd .u8 w' w'.heap.size A zs := (h.keep hb (Nat.le_refl _)).keep (Below.refl _ _) hb.size
theorem bstr_ext {a b : List Nat} (h : (bstr a).toList = (bstr b).toList) : bstr a = bstr b := by
  have e : ∀ x : ByteArray, x.toList = x.data.toList := fun x => ByteArray.toList_eq x
  rw [e, e] at h
  have h2 : (bstr a).data = (bstr b).data := Array.toList_inj.1 h
  cases ha : bstr a with
  | mk d =>
    cases hb : bstr b with
    | mk d' =>
      rw [ha, hb] at h2
      simp only at h2
      rw [h2]
/-- what the last line of ExprBack reads -/
structure Bq (w W : World) (a b : Tr) (A A' : Option Addr) (c c' : Nat) (b9 : Nat) (A3 : Option Addr) (c3 : Nat) (A1 A2 : Option Addr) : Prop where
  two : Two w W a b A A' c c'
  box : Box3 W b9 (.int .i64 a.k) (.int .i64 a.i) (.slice A3 a.ks.length c3)
  it : IsT W W.heap.size a A3 c3
  r1 : Rd .u8 W W.heap.size A1 (bcast a.enc)
  r2 : Rd .u8 W W.heap.size A2 (bcast b.enc)
theorem Bq.keep {w W W' : World} {a b : Tr} {A A' : Option Addr} {c c' : Nat} {b9 : Nat} {A3 : Option Addr} {c3 : Nat} {A1 A2 : Option Addr} (h : Bq w W a b A A' c c' b9 A3 c3 A1 A2) (hb : Below W.heap.size W W') : Bq w W' a b A A' c c' b9 A3 c3 A1 A2 :=
  ⟨h.two.keep hb, h.box.keep hb h.box.lt, h.it.keep hb hb.size, h.r1.up hb, h.r2.up hb⟩
attribute [local go_sem ↓] Go.wp_at_zero Go.wp_at_succ
set_option maxRecDepth 100000 in
set_option maxHeartbeats 4000000 in
theorem eback_any (a b : Tr) (A A' : Option Addr) (c c' : Nat) (w : World) (ha : IsT w w.heap.size a A c) (hb : IsT w w.heap.size b A' c') :
    Calls Try.prog 8 #[.agg #[.int .i64 a.k, .int .i64 a.i, .slice A a.ks.length c], .agg #[.int .i64 b.k, .int .i64 b.i, .slice A' b.ks.length c']] w fun e w' => e = .returned (.bool true) ∧ Below w.heap.size w w' := by
  have T0 := Lib.hid (two_start ha hb)
  clear ha hb
  go_enter Try.func8, Try.ntmps8
  go_wp2_with fail
  refine (encode_any a A c _ (by exact T0.out.ta)).mono ?_
  rintro e w1 ⟨v1, l1, rfl, hl1, o1, hb1⟩
  have T1 := T0.out.keep hb1
  obtain ⟨c0, c1, c2⟩ := And.intro T1.d0 (And.intro T1.d1 T1.d2)
  have O1 := Lib.hid o1
  have HL1 := Lib.hid hl1
  clear hb1 o1 hl1
  go_wp2_with fail
  refine (encode_any b A' c' _ (by exact T1.tb)).mono ?_
  rintro e w2 ⟨v2, l2, rfl, hl2, o2, hb2⟩
  have T2 := T1.keep hb2
  have O1' := Lib.hid (own_keep O1.out hb2)
  have O2 := Lib.hid o2
  have HL2 := Lib.hid hl2
  obtain ⟨d0, d1, d2⟩ := And.intro T2.b0 (And.intro T2.b1 T2.b2)
  clear hb2 o2 hl2 T1 O1 c0 c1 c2
  obtain ⟨ra, hra⟩ : ∃ ra, ra = rightN a := ⟨_, rfl⟩
  obtain ⟨rb, hrb⟩ : ∃ rb, rb = rightN b := ⟨_, rfl⟩
  rw [← hra, ← hrb]
  have RA := Lib.hid hra
  have RB := Lib.hid hrb
  clear hra hrb
  obtain ⟨za, hza⟩ : ∃ za : Bool, ((ra : Int) == 0) = za := ⟨_, rfl⟩
  obtain ⟨zb, hzb⟩ : ∃ zb : Bool, ((rb : Int) == 0) = zb := ⟨_, rfl⟩
  go_wp2_with fail
  refine (rright_any a A c _ (by exact T2.ta)).mono ?_
  rintro e w3 ⟨rfl, hb3⟩
  rw [← RA.out]
  have T3 := T2.keep hb3
  have O3 := Lib.hid (own_keep O1'.out hb3)
  have O4 := Lib.hid (own_keep O2.out hb3)
  obtain ⟨d0, d1, d2⟩ := And.intro T3.d0 (And.intro T3.d1 T3.d2)
  clear hb3 T2 O1' O2
  go_wp2_with fail
  refine (rright_any b A' c' _ (by exact T3.tb)).mono ?_
  rintro e w4 ⟨rfl, hb4⟩
  rw [← RB.out]
  have T4 := T3.keep hb4
  have O5 := Lib.hid (own_keep O3.out hb4)
  have O6 := Lib.hid (own_keep O4.out hb4)
  clear hb4 T3 O3 O4 d0 d1 d2
  by_cases ha0 : ra = 0
  · by_cases hb0 : rb = 0
    · have hra : rightN a = 0 := by rw [← RA.out]; exact ha0
      have hrb : rightN b = 0 := by rw [← RB.out]; exact hb0
      obtain rfl : l1 = a.enc := by rw [HL1.out, if_pos hra]
      obtain rfl : l2 = b.enc := by rw [HL2.out, if_pos hrb]
      obtain ⟨A1, c1, rfl, r1, hc1, hm1⟩ := rd_own' O5.out
      obtain ⟨A2, c2, rfl, r2, hc2, hm2⟩ := rd_own' O6.out
      have BA := enc_bytes a (shp_heads a (right_zero a hra).2)
      have BB := enc_bytes b (shp_heads b (right_zero b hrb).2)
      have D := Lib.hid (decode_any A1 a.enc.length c1 a.enc w4 rfl BA r1 hm1 hc1)
      have DE := Lib.hid (dec_enc a hra)
      have R1 := Lib.hid r1
      have R2 := Lib.hid r2
      have FT := Lib.hid (heads_fit a (shp_heads a (right_zero a hra).2))
      have SAA := Lib.hid (show sameB a a = true by rw [sameB_self, hra]; rfl)
      have SAB := Lib.hid (show sameB a b = likeB a b by rw [sameB_eq, hra, hrb]; rfl)
      have INJ := Lib.hid (fun h => enc_inj a b hra hrb (bstr_inj BA BB h))
      obtain rfl : za = true := by rw [← hza, ha0]; rfl
      obtain rfl : zb = true := by rw [← hzb, hb0]; rfl
      subst ha0 hb0
      clear hza hzb r1 r2 BA BB hra hrb O5 O6
      obtain ⟨n1, hn1⟩ : ∃ n1, n1 = a.enc.length := ⟨_, rfl⟩
      obtain ⟨n2, hn2⟩ : ∃ n2, n2 = b.enc.length := ⟨_, rfl⟩
      rw [← hn1] at D ⊢
      rw [← hn2]
      have HN1 := Lib.hid hn1
      have HN2 := Lib.hid hn2
      clear hn1 hn2 hc1 hm1 hc2 hm2
      go_wp2_with fail
      refine D.out.mono ?_
      rintro e w5 ⟨hb5, t, A3, c3, f, hd, ho, rfl⟩
      obtain ⟨rfl, rfl⟩ := hd.unique DE.out
      have hb6 : Below w5.heap.size w5 (w5.alloc (.cells #[.int .i64 t.k, .int .i64 t.i, .slice A3 t.ks.length c3] 24)).drew := ((Below.refl _ _).alloc (Nat.le_refl _) _).drew
      have T' : Bq w (w5.alloc (.cells #[.int .i64 t.k, .int .i64 t.i, .slice A3 t.ks.length c3] 24)).drew t b A A' c c' w5.heap.size A3 c3 A1 A2 :=
        ⟨(T4.keep hb5).keep hb6, Box3.new _ _ _ _, ho.is FT.out hb6 (Nat.le_refl _), (R1.out.up hb5).up hb6, (R2.out.up hb5).up hb6⟩
      clear hb5 hb6 ho hd T4 D
      by_cases hab : t = b
      · subst hab
        have ST := Lib.hid (show sameB t t = true from SAA.out)
        clear SAB INJ
        go_wp2_with fail
        go_region_held3 (fun w' => (w'.cell? ⟨w.heap.size, 0, none⟩ = some (.int .i64 t.k) ∧ w'.cell? ⟨w.heap.size, 1, none⟩ = some (.int .i64 t.i) ∧ w'.cell? ⟨w.heap.size, 2, none⟩ = some (.slice A t.ks.length c) ∧ w'.cell? ⟨w.heap.size + 1, 0, none⟩ = some (.int .i64 t.k) ∧ w'.cell? ⟨w.heap.size + 1, 1, none⟩ = some (.int .i64 t.i) ∧ w'.cell? ⟨w.heap.size + 1, 2, none⟩ = some (.slice A' t.ks.length c')) ∧ (w'.cell? ⟨w5.heap.size, 0, none⟩ = some (.int .i64 t.k) ∧ w'.cell? ⟨w5.heap.size, 1, none⟩ = some (.int .i64 t.i) ∧ w'.cell? ⟨w5.heap.size, 2, none⟩ = some (.slice A3 t.ks.length c3)) ∧ (convert 34 9 (.slice A1 n1 c1)).run Try.prog w' = .ok (.string (bstr t.enc)) w' ∧ (convert 34 9 (.slice A2 n2 c2)).run Try.prog w' = .ok (.string (bstr t.enc)) w')
          (exact ⟨⟨T'.two.b0, T'.two.b1, T'.two.b2, T'.two.d0, T'.two.d1, T'.two.d2⟩, T'.box.cells, conv_bytes HN1.out.symm T'.r1, conv_bytes HN2.out.symm T'.r2⟩)
          (first
            | (go_at_call_of 25 (Value.slice A' (Tr.ks t).length c'); refine (same_any t t A A' c c' _ (by exact T'.two.ta) (by exact T'.two.tb)).mono ?_; rintro e w6 ⟨rfl, hb7⟩; replace T' := T'.keep hb7; clear hb7; rw [ST.out])
            | (go_at_call 25; refine (same_any t t A A3 c c3 _ (by exact T'.two.ta) (by exact T'.it)).mono ?_; rintro e w6 ⟨rfl, hb7⟩; replace T' := T'.keep hb7; clear hb7; rw [SAA.out]))
        all_goals (go_wp2_with fail)
        go_ret
        exact ⟨by first | rfl | exact ret_bool (by simp), T'.two.below⟩
      · have SF := Lib.hid (show sameB t b = false by rw [SAB.out]; unfold likeB; exact decide_eq_false (fun h => hab ((cmpT_zero t b).1 h)))
        have BNE := Lib.hid (show ((bstr t.enc).toList == (bstr b.enc).toList) = false by
          rw [beq_eq_false_iff_ne]
          exact fun h => hab (INJ.out (bstr_ext h)))
        clear hab SAB
        go_wp2_with fail
        go_region_held3 (fun w' => (w'.cell? ⟨w.heap.size, 0, none⟩ = some (.int .i64 t.k) ∧ w'.cell? ⟨w.heap.size, 1, none⟩ = some (.int .i64 t.i) ∧ w'.cell? ⟨w.heap.size, 2, none⟩ = some (.slice A t.ks.length c) ∧ w'.cell? ⟨w.heap.size + 1, 0, none⟩ = some (.int .i64 b.k) ∧ w'.cell? ⟨w.heap.size + 1, 1, none⟩ = some (.int .i64 b.i) ∧ w'.cell? ⟨w.heap.size + 1, 2, none⟩ = some (.slice A' b.ks.length c')) ∧ (w'.cell? ⟨w5.heap.size, 0, none⟩ = some (.int .i64 t.k) ∧ w'.cell? ⟨w5.heap.size, 1, none⟩ = some (.int .i64 t.i) ∧ w'.cell? ⟨w5.heap.size, 2, none⟩ = some (.slice A3 t.ks.length c3)) ∧ (convert 34 9 (.slice A1 n1 c1)).run Try.prog w' = .ok (.string (bstr t.enc)) w' ∧ (convert 34 9 (.slice A2 n2 c2)).run Try.prog w' = .ok (.string (bstr b.enc)) w')
          (exact ⟨⟨T'.two.b0, T'.two.b1, T'.two.b2, T'.two.d0, T'.two.d1, T'.two.d2⟩, T'.box.cells, conv_bytes HN1.out.symm T'.r1, conv_bytes HN2.out.symm T'.r2⟩)
          (first
            | (go_at_call_of 25 (Value.slice A' (Tr.ks b).length c'); refine (same_any t b A A' c c' _ (by exact T'.two.ta) (by exact T'.two.tb)).mono ?_; rintro e w6 ⟨rfl, hb7⟩; replace T' := T'.keep hb7; clear hb7; rw [SF.out])
            | (go_at_call 25; refine (same_any t t A A3 c c3 _ (by exact T'.two.ta) (by exact T'.it)).mono ?_; rintro e w6 ⟨rfl, hb7⟩; replace T' := T'.keep hb7; clear hb7; rw [SAA.out]))
        all_goals (go_wp2_with fail)
        go_ret
        exact ⟨ret_bool (by rw [BNE.out]; rfl), T'.two.below⟩
    · have h1 : ((rb : Int) != 0) = true := by rw [bne_iff_ne]; omega
      obtain rfl : za = true := by rw [← hza, ha0]; rfl
      obtain rfl : zb = false := by rw [← hzb, beq_eq_false_iff_ne]; omega
      subst ha0
      clear hza hzb
      go_wp2_with fail
      go_ret
      exact ⟨rfl, T4.below⟩
  · have h1 : ((ra : Int) != 0) = true := by rw [bne_iff_ne]; omega
    obtain rfl : za = false := by rw [← hza, beq_eq_false_iff_ne]; omega
    clear hza
    cases zb with
    | true =>
      go_wp2_with fail
      go_ret
      exact ⟨rfl, T4.below⟩
    | false =>
      go_wp2_with fail
      go_ret
      exact ⟨rfl, T4.below⟩
end Go.Proofs.Ythnbkojgoegmpaa
