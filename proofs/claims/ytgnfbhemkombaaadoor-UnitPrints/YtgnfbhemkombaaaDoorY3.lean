/- Text and listed of the document's layer 3. -/
import Derived.Test.YtgnfbhemkombaaaDoorY2
import Derived.Laws.Concat
import Derived.Deep.RegionHeld3
import Derived.Deep.DeepCutAuto
namespace Go.Proofs.YtgnfbhemkombaaaDoor
open Go.RowKit
set_option linter.unusedVariables false
set_option linter.unusedSimpArgs false
theorem addS {x y z : List UInt8} {a b c : ByteArray} (ha : a = ⟨x.toArray⟩) (hb : b = ⟨y.toArray⟩) (hc : c = ⟨z.toArray⟩) (h : z = x ++ y) (hl : x.length + y.length ≤ 1000000) (W : World) : (Op.stringOp .add a b).run Tryd.prog W = .ok (.string c) W := by
  subst ha hb hc h
  rw [run_string_add_sum W _ _ (by simp [ByteArray.size]; omega), ByteArray.mk_append_mk]
theorem below_alY (w : World) (o : Obj) : Below w.heap.size w (w.alloc o) := (Below.refl _ _).alloc (Nat.le_refl _) o
/-- Text, of trees up to a size -/
def TW (N : Nat) : Prop := ∀ (t : Tr) (A : Option Addr) (c : Nat) (w : World), t.sz ≤ N → t.shp = true → t.sz ≤ 1000 → IsT w w.heap.size t A c →
  Calls Tryd.prog 22 #[.agg #[.int .i64 t.k, .int .i64 t.i, .slice A t.ks.length c]] w fun e w' => e = .returned (.string ⟨(textT t).toArray⟩) ∧ Below w.heap.size w w'
/-- the box of Text -/
structure TY (w W : World) (k i : Int) (A : Option Addr) (n c : Nat) : Prop where
  below : Below w.heap.size w W
  box : Box3 W w.heap.size (.int .i64 k) (.int .i64 i) (.slice A n c)
theorem TY.start (w : World) (k i : Int) (A : Option Addr) (n c : Nat) : TY w (w.alloc (.cells #[.int .i64 k, .int .i64 i, .slice A n c] 24)) k i A n c := ⟨(Below.refl _ _).alloc (Nat.le_refl _) _, Box3.new _ _ _ _⟩
theorem TY.keep {w W W' : World} {k i : Int} {A : Option Addr} {n c : Nat} (h : TY w W k i A n c) (hb : Below W.heap.size W W') : TY w W' k i A n c := ⟨h.below.trans (hb.mono h.below.size), h.box.keep hb h.box.lt⟩
theorem TY.drew {w W : World} {k i : Int} {A : Option Addr} {n c : Nat} (h : TY w W k i A n c) : TY w W.drew k i A n c := h.keep (Below.refl _ _).drew
set_option maxHeartbeats 4000000 in
set_option maxRecDepth 100000 in
theorem listed_of {N : Nat} (IH : TW N) (t : Tr) (A : Option Addr) (c : Nat) (u : UInt8) (S : ByteArray) (hS : S = ⟨[u].toArray⟩) (w : World) (hN : t.sz ≤ N + 1) (hs : t.shp = true) (hz : t.sz ≤ 1000) (ht : IsT w w.heap.size t A c) :
    Calls Tryd.prog 50 #[.string S, .agg #[.int .i64 t.k, .int .i64 t.i, .slice A t.ks.length c]] w fun e w' => e = .returned (.string ⟨([u] ++ decT t.i ++ listX (t.ks.map textT)).toArray⟩) ∧ Below w.heap.size w w' := by
  obtain ⟨i0, i1, _⟩ := shp_node hs
  have hlen := ht.len
  have T0 := Lib.hid (TY.start w t.k t.i A t.ks.length c)
  have HT := Lib.hid ht
  have hd : (decT t.i).length ≤ 2 := dec_short _ (by omega)
  obtain ⟨n, hn⟩ : ∃ n : Nat, t.i = n := ⟨t.i.toNat, by omega⟩
  have HN := Lib.hid (show n < 100 by omega)
  have hzz := sz_eq t
  have PL := fun (m : Nat) => (show (preX ((t.ks.take m).map textT)).length ≤ 5 * szL (t.ks.take m) from preX_len _ (fun q hq => text_len q (shp_kidY hs (List.mem_of_mem_take hq))))
  have SL := fun (m : Nat) => szL_take_le t.ks m
  -- the text as far as it is made, and what is put behind it
  obtain ⟨pre, hpre⟩ : ∃ pre : Nat → ByteArray, pre = fun m => ⟨([u] ++ decT t.i ++ preX ((t.ks.take m).map textT)).toArray⟩ := ⟨_, rfl⟩
  obtain ⟨sep, hsep⟩ : ∃ sep : Nat → ByteArray, sep = fun m => ⟨([u] ++ decT t.i ++ preX ((t.ks.take m).map textT) ++ sepX m).toArray⟩ := ⟨_, rfl⟩
  have A1 := Lib.hid (fun (W : World) => addS (a := S) (b := ⟨(Lib.decDigits n).toArray⟩) (c := pre 0) (x := [u]) (y := Lib.decDigits n) hS rfl (by rw [hpre]) (by simp [preX, decT, hn]) (by have := dec_short n HN.out; simp; omega) W)
  have A2 := Lib.hid (fun (m : Nat) (W : World) => addS (a := pre m) (b := ⟨(sepX m).toArray⟩) (c := sep m) (by rw [hpre]) rfl (by rw [hsep]) rfl (by have := PL m; have := SL m; have := sepX_len m; simp only [List.length_append, List.length_cons, List.length_nil]; omega) W)
  have A3 := Lib.hid (fun (m : Nat) (h : m < t.ks.length) (W : World) => addS (a := sep m) (b := ⟨(textT t.ks[m]).toArray⟩) (c := pre (m + 1)) (by rw [hsep]) rfl (by rw [hpre]) (by rw [List.map_take, List.map_take, preX_take _ m (by simpa using h), List.getElem_map]; simp) (by have := PL m; have := SL m; have := sepX_len m; have := text_len t.ks[m] (shp_kidY hs (List.getElem_mem h)); have := kid_sz t m h; simp only [List.length_append, List.length_cons, List.length_nil]; omega) W)
  obtain ⟨fin, hfin⟩ : ∃ fin : ByteArray, fin = ⟨([u] ++ decT t.i ++ listX (t.ks.map textT)).toArray⟩ := ⟨_, rfl⟩
  have A4 := Lib.hid (fun (h : 0 < t.ks.length) (W : World) => addS (a := pre t.ks.length) (b := ⟨[41].toArray⟩) (c := fin) (by rw [hpre]) rfl hfin (by rw [List.take_length, listX_pre _ (by intro e; rw [List.map_eq_nil_iff] at e; rw [e] at h; simp at h)]; simp) (by have := PL t.ks.length; have := SL t.ks.length; simp only [List.length_append, List.length_cons, List.length_nil]; omega) W)
  have A5 := Lib.hid (fun (h : t.ks.length = 0) => (show pre t.ks.length = fin by rw [hpre, hfin, List.eq_nil_of_length_eq_zero h]; simp [preX, listX]))
  have IK := Lib.hid (fun (m : Nat) (h : m < t.ks.length) (A : Option Addr) (c : Nat) (W : World) => IH t.ks[m] A c W (by have := kid_sz t m h; omega) (shp_kidY hs (List.getElem_mem h)) (by have := kid_sz t m h; omega))
  rw [← hfin]
  clear ht hs hN hz hzz hd PL SL hpre hsep hfin IH i0 i1 hS
  rw [hn] at T0 ⊢
  have HI := Lib.hid hn
  clear hn
  obtain ⟨x0, x1, x2⟩ := T0.out.box.cells
  go_enter Tryd.func50, Tryd.ntmps50
  have A1' := A1.out
  go_wp2_with (go_at_call 41; refine (Tryd.strconv_Itoa_small n HN.out _).mono ?_; rintro e w' ⟨rfl, hw'⟩; subst hw')
  clear A1'
  go_loopw [5, 16] (fun s i wr => ∃ m : Nat, m ≤ t.ks.length ∧ i = .int .i64 m ∧ s = .string (pre m) ∧ TY w wr t.k n A t.ks.length c) (fun _ i _ => t.ks.length - (intOf i).toNat)
  case atStart => exact ⟨0, Nat.zero_le _, rfl, rfl, T0.out⟩
  case round =>
    obtain ⟨m, hm', rfl, rfl, hT⟩ := hrel
    clear x0 x1 x2
    have T1 := Lib.hid hT
    clear hT
    by_cases hlt : m < t.ks.length
    · obtain ⟨g, o, A', c', rfl, hg, c0, c1, c2, hk⟩ := HT.out.kid m hlt
      have d0 := (T1.out.below.cell hg).trans c0
      have d1 := (T1.out.below.cell hg).trans c1
      have d2 := (T1.out.below.cell hg).trans c2
      have TK := Lib.hid (fun (W : World) (h : Below w.heap.size w W) => (hk.keep h h.size : IsT W W.heap.size t.ks[m] A' c'))
      have IQ := Lib.hid (IK.out m hlt A' c')
      have a3 := A3.out m hlt
      have a2 := A2.out m
      obtain ⟨q, hq⟩ : ∃ q, q = t.ks[m] := ⟨_, rfl⟩
      rw [← hq] at TK IQ a3 d0 d1 d2
      obtain ⟨sq, hsq⟩ : ∃ sq : ByteArray, sq = ⟨(textT q).toArray⟩ := ⟨_, rfl⟩
      rw [← hsq] at a3 IQ
      clear hq c0 c1 c2 hk hsq
      have T2 := Lib.hid (T1.out.keep (below_alY wr (.cells #[.int .i64 q.k, .int .i64 q.i, .slice A' q.ks.length c'] 24)))
      have B2 := Lib.hid (Box3.new wr (.int .i64 q.k) (.int .i64 q.i) (.slice A' q.ks.length c'))
      obtain ⟨y0, y1, y2⟩ := B2.out.cells
      by_cases h0 : m = 0
      · subst h0
        simp only [Nat.zero_mul, Nat.add_zero] at d0 d1 d2
        have b2 : ∀ W : World, (Op.stringOp .add (pre 0) { data := #[40] }).run Tryd.prog W = .ok (.string (sep 0)) W := a2
        clear a2
        go_wp2_with fail
        refine (IQ.out _ (by exact TK.out _ T2.out.below)).mono ?_
        rintro e w5 ⟨rfl, hb5⟩
        have T5 := Lib.hid (T2.out.keep hb5)
        clear hb5 y0 y1 y2 d0 d1 d2 B2 T2
        go_wp2_with fail
        go_roundw
        case rel => exact ⟨0 + 1, by omega, by go_num, rfl, T5.out⟩
        case measure => simp [intOf]; omega
      · have hm0 : ((m : Int) == 0) = false := by rw [beq_eq_false_iff_ne]; omega
        have b2 : ∀ W : World, (Op.stringOp .add (pre m) { data := #[44, 32] }).run Tryd.prog W = .ok (.string (sep m)) W := by
          obtain ⟨j, rfl⟩ : ∃ j, m = j + 1 := ⟨m - 1, by omega⟩
          exact a2
        clear a2 h0
        go_wp2_with fail
        refine (IQ.out _ (by exact TK.out _ T2.out.below)).mono ?_
        rintro e w5 ⟨rfl, hb5⟩
        have T5 := Lib.hid (T2.out.keep hb5)
        clear hb5 y0 y1 y2 d0 d1 d2 B2 T2
        go_wp2_with fail
        go_roundw
        case rel => exact ⟨m + 1, by omega, by go_num, rfl, T5.out⟩
        case measure => simp [intOf]; omega
    · obtain rfl : m = t.ks.length := by omega
      obtain ⟨x0, x1, x2⟩ := T1.out.box.cells
      by_cases h0 : t.ks.length = 0
      · have e := A5.out h0
        have hd : decide (0 < (t.ks.length : Int)) = false := by rw [decide_eq_false_iff_not]; omega
        have hd2 : decide (0 < t.ks.length) = false := by rw [decide_eq_false_iff_not]; omega
        rw [e]
        clear e h0
        go_wp2_with fail
        go_ret
        exact ⟨rfl, T1.out.below⟩
      · have a4 : ∀ W : World, (Op.stringOp .add (pre t.ks.length) { data := #[41] }).run Tryd.prog W = .ok (.string fin) W := A4.out (by omega)
        have hd : decide (0 < (t.ks.length : Int)) = true := by rw [decide_eq_true_iff]; omega
        have hd2 : decide (0 < t.ks.length) = true := by rw [decide_eq_true_iff]; omega
        clear h0
        go_wp2_with fail
        go_ret
        exact ⟨rfl, T1.out.below⟩
set_option maxHeartbeats 4000000 in
set_option maxRecDepth 100000 in
theorem text1_of (i : Int) (i0 : 0 ≤ i) (i1 : i ≤ 99) (A : Option Addr) (c : Nat) (w : World) :
    Calls Tryd.prog 22 #[.agg #[.int .i64 1, .int .i64 i, .slice A 0 c]] w fun e w' => e = .returned (.string ⟨(textT (.node 1 i [])).toArray⟩) ∧ Below w.heap.size w w' := by
  have T0 := Lib.hid (TY.start w 1 i A 0 c)
  obtain ⟨n, rfl⟩ : ∃ n : Nat, i = n := ⟨i.toNat, by omega⟩
  have HN := Lib.hid (show n < 100 by omega)
  obtain ⟨fin, hfin⟩ : ∃ fin : ByteArray, fin = ⟨(textT (.node 1 (n : Int) [])).toArray⟩ := ⟨_, rfl⟩
  have a1 : ∀ W : World, (Op.stringOp .add { data := #[120] } ⟨(Lib.decDigits n).toArray⟩).run Tryd.prog W = .ok (.string fin) W := fun W => addS (x := [120]) (y := Lib.decDigits n) rfl rfl hfin (by simp [textT, textL, nodeX, listX, decT]) (by have := dec_short n HN.out; simp; omega) W
  rw [← hfin]
  clear hfin i0 i1
  obtain ⟨x0, x1, x2⟩ := T0.out.box.cells
  go_enter Tryd.func22, Tryd.ntmps22
  go_wp2_with (go_at_call 41; refine (Tryd.strconv_Itoa_small n HN.out _).mono ?_; rintro e w' ⟨rfl, hw'⟩; subst hw')
  go_ret
  exact ⟨rfl, T0.out.below⟩
set_option maxHeartbeats 4000000 in
set_option maxRecDepth 100000 in
theorem text2_of {N : Nat} (IH : TW N) (i : Int) (ks : List Tr) (A : Option Addr) (c : Nat) (w : World) (hN : (Tr.node 2 i ks).sz ≤ N + 1) (hs : (Tr.node 2 i ks).shp = true) (hz : (Tr.node 2 i ks).sz ≤ 1000) (ht : IsT w w.heap.size (.node 2 i ks) A c) :
    Calls Tryd.prog 22 #[.agg #[.int .i64 2, .int .i64 i, .slice A ks.length c]] w fun e w' => e = .returned (.string ⟨(textT (.node 2 i ks)).toArray⟩) ∧ Below w.heap.size w w' := by
  have T0 := Lib.hid (TY.start w 2 i A ks.length c)
  have LS := Lib.hid (fun (W : World) (h : Below w.heap.size w W) => (show Calls Tryd.prog 50 #[.string { data := #[102] }, .agg #[.int .i64 2, .int .i64 i, .slice A ks.length c]] W fun e w' => e = .returned (.string ⟨(textT (.node 2 i ks)).toArray⟩) ∧ Below W.heap.size W w' from by
    rw [textT_eq]
    exact listed_of IH (.node 2 i ks) A c 102 _ rfl W hN hs hz (ht.keep h h.size)))
  obtain ⟨fin, hfin⟩ : ∃ fin : ByteArray, fin = ⟨(textT (.node 2 i ks)).toArray⟩ := ⟨_, rfl⟩
  rw [← hfin] at LS ⊢
  clear hfin hN hs hz ht IH
  obtain ⟨x0, x1, x2⟩ := T0.out.box.cells
  go_enter Tryd.func22, Tryd.ntmps22
  go_wp2_with fail
  refine (LS.out _ T0.out.below).mono ?_
  rintro e w1 ⟨rfl, hb1⟩
  have T1 := Lib.hid (T0.out.keep hb1)
  clear hb1
  go_wp2_with fail
  go_ret
  exact ⟨rfl, T1.out.below⟩
set_option maxHeartbeats 4000000 in
set_option maxRecDepth 100000 in
theorem text3_of {N : Nat} (IH : TW N) (i : Int) (ks : List Tr) (A : Option Addr) (c : Nat) (w : World) (hN : (Tr.node 3 i ks).sz ≤ N + 1) (hs : (Tr.node 3 i ks).shp = true) (hz : (Tr.node 3 i ks).sz ≤ 1000) (ht : IsT w w.heap.size (.node 3 i ks) A c) :
    Calls Tryd.prog 22 #[.agg #[.int .i64 3, .int .i64 i, .slice A ks.length c]] w fun e w' => e = .returned (.string ⟨(textT (.node 3 i ks)).toArray⟩) ∧ Below w.heap.size w w' := by
  have T0 := Lib.hid (TY.start w 3 i A ks.length c)
  have LS := Lib.hid (fun (W : World) (h : Below w.heap.size w W) => (show Calls Tryd.prog 50 #[.string { data := #[80] }, .agg #[.int .i64 3, .int .i64 i, .slice A ks.length c]] W fun e w' => e = .returned (.string ⟨(textT (.node 3 i ks)).toArray⟩) ∧ Below W.heap.size W w' from by
    rw [textT_eq]
    exact listed_of IH (.node 3 i ks) A c 80 _ rfl W hN hs hz (ht.keep h h.size)))
  obtain ⟨fin, hfin⟩ : ∃ fin : ByteArray, fin = ⟨(textT (.node 3 i ks)).toArray⟩ := ⟨_, rfl⟩
  rw [← hfin] at LS ⊢
  clear hfin hN hs hz ht IH
  obtain ⟨x0, x1, x2⟩ := T0.out.box.cells
  go_enter Tryd.func22, Tryd.ntmps22
  go_wp2_with fail
  refine (LS.out _ T0.out.below).mono ?_
  rintro e w1 ⟨rfl, hb1⟩
  have T1 := Lib.hid (T0.out.keep hb1)
  clear hb1
  go_wp2_with fail
  go_ret
  exact ⟨rfl, T1.out.below⟩
set_option maxHeartbeats 4000000 in
set_option maxRecDepth 100000 in
theorem text5_of {N : Nat} (IH : TW N) (i : Int) (x : Tr) (A : Option Addr) (c : Nat) (w : World) (hN : x.sz ≤ N) (hx : x.shp = true) (hz : x.sz ≤ 1000) (ht : IsT w w.heap.size (.node 5 i [x]) A c) :
    Calls Tryd.prog 22 #[.agg #[.int .i64 5, .int .i64 i, .slice A 1 c]] w fun e w' => e = .returned (.string ⟨(textT (.node 5 i [x])).toArray⟩) ∧ Below w.heap.size w w' := by
  obtain ⟨g, o, Aa, ca, rfl, hg, ha, ta, hc⟩ := kidsY1 ht
  have T0 := Lib.hid (TY.start w 5 i (some ⟨g, o, none⟩) 1 c)
  have lx := text_len x hx
  obtain ⟨sx, hsx⟩ : ∃ sx : ByteArray, sx = ⟨(textT x).toArray⟩ := ⟨_, rfl⟩
  obtain ⟨fin, hfin⟩ : ∃ fin : ByteArray, fin = ⟨(textT (.node 5 i [x])).toArray⟩ := ⟨_, rfl⟩
  have a1 : ∀ W : World, (Op.stringOp .add { data := #[33] } sx).run Tryd.prog W = .ok (.string fin) W := fun W => addS (x := [33]) (y := textT x) rfl hsx hfin (by simp [textT_eq (.node 5 i [x]), nodeX, Tr.k, Tr.i, Tr.ks]) (by simp; omega) W
  have IX := Lib.hid (fun (W : World) (h : Below w.heap.size w W) => IH x Aa ca W hN hx hz (ta.keep h h.size))
  rw [← hsx] at IX
  rw [← hfin]
  obtain ⟨a0, b0, c0⟩ := ha.keep T0.out.below hg
  clear hfin hsx hN hx hz ht ta IH lx
  obtain ⟨x0, x1, x2⟩ := T0.out.box.cells
  go_enter Tryd.func22, Tryd.ntmps22
  go_wp2_with fail
  refine (IX.out _ T0.out.below).mono ?_
  rintro e w1 ⟨rfl, hb1⟩
  have T1 := Lib.hid (T0.out.keep hb1)
  clear hb1
  go_wp2_with fail
  go_ret
  exact ⟨rfl, T1.out.below⟩
set_option maxHeartbeats 4000000 in
set_option maxRecDepth 100000 in
theorem text4_of {N : Nat} (IH : TW N) (i : Int) (x y : Tr) (A : Option Addr) (c : Nat) (w : World) (hN : x.sz + y.sz ≤ N) (hx : x.shp = true) (hy : y.shp = true) (hz : x.sz + y.sz ≤ 1000) (ht : IsT w w.heap.size (.node 4 i [x, y]) A c) :
    Calls Tryd.prog 22 #[.agg #[.int .i64 4, .int .i64 i, .slice A 2 c]] w fun e w' => e = .returned (.string ⟨(textT (.node 4 i [x, y])).toArray⟩) ∧ Below w.heap.size w w' := by
  obtain ⟨g, o, Aa, ca, Ab, cb, rfl, hg, ha, hb, ta, tb, hc⟩ := kidsY2 ht
  have T0 := Lib.hid (TY.start w 4 i (some ⟨g, o, none⟩) 2 c)
  have lx := text_len x hx
  have ly := text_len y hy
  obtain ⟨sx, hsx⟩ : ∃ sx : ByteArray, sx = ⟨(textT x).toArray⟩ := ⟨_, rfl⟩
  obtain ⟨sy, hsy⟩ : ∃ sy : ByteArray, sy = ⟨(textT y).toArray⟩ := ⟨_, rfl⟩
  obtain ⟨fin, hfin⟩ : ∃ fin : ByteArray, fin = ⟨(textT (.node 4 i [x, y])).toArray⟩ := ⟨_, rfl⟩
  obtain ⟨s1, hs1⟩ : ∃ s1 : ByteArray, s1 = ⟨((textT x) ++ [32, 61, 32]).toArray⟩ := ⟨_, rfl⟩
  have a1 : ∀ W : World, (Op.stringOp .add sx { data := #[32, 61, 32] }).run Tryd.prog W = .ok (.string s1) W := fun W => addS (y := [32, 61, 32]) hsx rfl hs1 rfl (by simp; omega) W
  have a2 : ∀ W : World, (Op.stringOp .add s1 sy).run Tryd.prog W = .ok (.string fin) W := fun W => addS hs1 hsy hfin (by simp [textT_eq (.node 4 i [x, y]), nodeX, betwX, Tr.k, Tr.i, Tr.ks]) (by simp; omega) W
  have IX := Lib.hid (fun (W : World) (h : TY w W 4 i (some ⟨g, o, none⟩) 2 c) => IH x Aa ca W (by omega) hx (by omega) (ta.keep h.below h.below.size))
  have IY := Lib.hid (fun (W : World) (h : TY w W 4 i (some ⟨g, o, none⟩) 2 c) => IH y Ab cb W (by omega) hy (by omega) (tb.keep h.below h.below.size))
  rw [← hsx] at IX
  rw [← hsy] at IY
  rw [← hfin]
  have CE := Lib.hid (fun (W : World) (h : TY w W 4 i (some ⟨g, o, none⟩) 2 c) => (show W.cell? ⟨w.heap.size, 2, none⟩ = some (.slice (some ⟨g, o, none⟩) 2 c) ∧ ((W.cell? ⟨g, o, none⟩ = some (.int .i64 x.k) ∧ W.cell? ⟨g, o + 1, none⟩ = some (.int .i64 x.i) ∧ W.cell? ⟨g, o + 2, none⟩ = some (.slice Aa x.ks.length ca)) ∧ (W.cell? ⟨g, o + 3, none⟩ = some (.int .i64 y.k) ∧ W.cell? ⟨g, o + 3 + 1, none⟩ = some (.int .i64 y.i) ∧ W.cell? ⟨g, o + 3 + 2, none⟩ = some (.slice Ab y.ks.length cb))) from
    ⟨h.box.cells.2.2, ⟨(ha.keep h.below hg).c0, (ha.keep h.below hg).c1, (ha.keep h.below hg).c2⟩, (hb.keep h.below hg).c0, (hb.keep h.below hg).c1, (hb.keep h.below hg).c2⟩))
  clear hfin hsx hsy hs1 hN hx hy hz ht ha hb ta tb IH lx ly
  obtain ⟨x0, x1, _⟩ := T0.out.box.cells
  go_enter Tryd.func22, Tryd.ntmps22
  go_wp2_with fail
  have E := Lib.hid T0.out.drew
  clear T0 x0 x1
  go_region_held3 (fun w' => w'.cell? ⟨w.heap.size, 2, none⟩ = some (.slice (some ⟨g, o, none⟩) 2 c) ∧ ((w'.cell? ⟨g, o, none⟩ = some (.int .i64 x.k) ∧ w'.cell? ⟨g, o + 1, none⟩ = some (.int .i64 x.i) ∧ w'.cell? ⟨g, o + 2, none⟩ = some (.slice Aa x.ks.length ca)) ∧ (w'.cell? ⟨g, o + 3, none⟩ = some (.int .i64 y.k) ∧ w'.cell? ⟨g, o + 3 + 1, none⟩ = some (.int .i64 y.i) ∧ w'.cell? ⟨g, o + 3 + 2, none⟩ = some (.slice Ab y.ks.length cb))))
    (exact CE.out _ E.out)
    (first
      | (go_at_call 22; (with_reducible refine (IX.out _ E.out).mono ?_); rintro e5 w5 ⟨rfl, hb5⟩; replace E := Lib.hid (E.out.keep hb5); clear hb5)
      | (go_at_call 22; (with_reducible refine (IY.out _ E.out).mono ?_); rintro e5 w5 ⟨rfl, hb5⟩; replace E := Lib.hid (E.out.keep hb5); clear hb5))
  all_goals
    go_wp2_with fail
    go_ret
    exact ⟨rfl, E.out.below⟩
set_option maxHeartbeats 4000000 in
set_option maxRecDepth 100000 in
theorem text6_of {N : Nat} (IH : TW N) (i : Int) (x y : Tr) (A : Option Addr) (c : Nat) (w : World) (hN : x.sz + y.sz ≤ N) (hx : x.shp = true) (hy : y.shp = true) (hz : x.sz + y.sz ≤ 1000) (ht : IsT w w.heap.size (.node 6 i [x, y]) A c) :
    Calls Tryd.prog 22 #[.agg #[.int .i64 6, .int .i64 i, .slice A 2 c]] w fun e w' => e = .returned (.string ⟨(textT (.node 6 i [x, y])).toArray⟩) ∧ Below w.heap.size w w' := by
  obtain ⟨g, o, Aa, ca, Ab, cb, rfl, hg, ha, hb, ta, tb, hc⟩ := kidsY2 ht
  have T0 := Lib.hid (TY.start w 6 i (some ⟨g, o, none⟩) 2 c)
  have lx := text_len x hx
  have ly := text_len y hy
  obtain ⟨sx, hsx⟩ : ∃ sx : ByteArray, sx = ⟨(textT x).toArray⟩ := ⟨_, rfl⟩
  obtain ⟨sy, hsy⟩ : ∃ sy : ByteArray, sy = ⟨(textT y).toArray⟩ := ⟨_, rfl⟩
  obtain ⟨fin, hfin⟩ : ∃ fin : ByteArray, fin = ⟨(textT (.node 6 i [x, y])).toArray⟩ := ⟨_, rfl⟩
  obtain ⟨s0, hs0⟩ : ∃ s0 : ByteArray, s0 = ⟨([40] ++ textT x).toArray⟩ := ⟨_, rfl⟩
  obtain ⟨s1, hs1⟩ : ∃ s1 : ByteArray, s1 = ⟨(([40] ++ textT x) ++ [32, 62, 32]).toArray⟩ := ⟨_, rfl⟩
  obtain ⟨s2, hs2⟩ : ∃ s2 : ByteArray, s2 = ⟨(([40] ++ textT x) ++ [32, 62, 32] ++ textT y).toArray⟩ := ⟨_, rfl⟩
  have a0 : ∀ W : World, (Op.stringOp .add { data := #[40] } sx).run Tryd.prog W = .ok (.string s0) W := fun W => addS (x := [40]) (y := textT x) rfl hsx hs0 rfl (by simp; omega) W
  have a1 : ∀ W : World, (Op.stringOp .add s0 { data := #[32, 62, 32] }).run Tryd.prog W = .ok (.string s1) W := fun W => addS (y := [32, 62, 32]) hs0 rfl hs1 rfl (by simp; omega) W
  have a2 : ∀ W : World, (Op.stringOp .add s1 sy).run Tryd.prog W = .ok (.string s2) W := fun W => addS hs1 hsy hs2 rfl (by simp; omega) W
  have a3 : ∀ W : World, (Op.stringOp .add s2 { data := #[41] }).run Tryd.prog W = .ok (.string fin) W := fun W => addS (y := [41]) hs2 rfl hfin (by simp [textT_eq (.node 6 i [x, y]), nodeX, betwX, Tr.k, Tr.i, Tr.ks]) (by simp; omega) W
  have IX := Lib.hid (fun (W : World) (h : TY w W 6 i (some ⟨g, o, none⟩) 2 c) => IH x Aa ca W (by omega) hx (by omega) (ta.keep h.below h.below.size))
  have IY := Lib.hid (fun (W : World) (h : TY w W 6 i (some ⟨g, o, none⟩) 2 c) => IH y Ab cb W (by omega) hy (by omega) (tb.keep h.below h.below.size))
  rw [← hsx] at IX
  rw [← hsy] at IY
  rw [← hfin]
  have CE := Lib.hid (fun (W : World) (h : TY w W 6 i (some ⟨g, o, none⟩) 2 c) => (show W.cell? ⟨w.heap.size, 2, none⟩ = some (.slice (some ⟨g, o, none⟩) 2 c) ∧ ((W.cell? ⟨g, o, none⟩ = some (.int .i64 x.k) ∧ W.cell? ⟨g, o + 1, none⟩ = some (.int .i64 x.i) ∧ W.cell? ⟨g, o + 2, none⟩ = some (.slice Aa x.ks.length ca)) ∧ (W.cell? ⟨g, o + 3, none⟩ = some (.int .i64 y.k) ∧ W.cell? ⟨g, o + 3 + 1, none⟩ = some (.int .i64 y.i) ∧ W.cell? ⟨g, o + 3 + 2, none⟩ = some (.slice Ab y.ks.length cb))) from
    ⟨h.box.cells.2.2, ⟨(ha.keep h.below hg).c0, (ha.keep h.below hg).c1, (ha.keep h.below hg).c2⟩, (hb.keep h.below hg).c0, (hb.keep h.below hg).c1, (hb.keep h.below hg).c2⟩))
  clear hfin hsx hsy hs0 hs1 hs2 hN hx hy hz ht ha hb ta tb IH lx ly
  obtain ⟨x0, x1, _⟩ := T0.out.box.cells
  go_enter Tryd.func22, Tryd.ntmps22
  go_wp2_with fail
  have E := Lib.hid T0.out.drew
  clear T0 x0 x1
  go_region_held3 (fun w' => w'.cell? ⟨w.heap.size, 2, none⟩ = some (.slice (some ⟨g, o, none⟩) 2 c) ∧ ((w'.cell? ⟨g, o, none⟩ = some (.int .i64 x.k) ∧ w'.cell? ⟨g, o + 1, none⟩ = some (.int .i64 x.i) ∧ w'.cell? ⟨g, o + 2, none⟩ = some (.slice Aa x.ks.length ca)) ∧ (w'.cell? ⟨g, o + 3, none⟩ = some (.int .i64 y.k) ∧ w'.cell? ⟨g, o + 3 + 1, none⟩ = some (.int .i64 y.i) ∧ w'.cell? ⟨g, o + 3 + 2, none⟩ = some (.slice Ab y.ks.length cb))))
    (exact CE.out _ E.out)
    (first
      | (go_at_call 22; (with_reducible refine (IX.out _ E.out).mono ?_); rintro e5 w5 ⟨rfl, hb5⟩; replace E := Lib.hid (E.out.keep hb5); clear hb5)
      | (go_at_call 22; (with_reducible refine (IY.out _ E.out).mono ?_); rintro e5 w5 ⟨rfl, hb5⟩; replace E := Lib.hid (E.out.keep hb5); clear hb5))
  all_goals
    go_wp2_with fail
    go_ret
    exact ⟨rfl, E.out.below⟩
set_option maxHeartbeats 4000000 in
set_option maxRecDepth 100000 in
theorem text8_of {N : Nat} (IH : TW N) (i : Int) (x y : Tr) (A : Option Addr) (c : Nat) (w : World) (hN : x.sz + y.sz ≤ N) (hx : x.shp = true) (hy : y.shp = true) (hz : x.sz + y.sz ≤ 1000) (ht : IsT w w.heap.size (.node 8 i [x, y]) A c) :
    Calls Tryd.prog 22 #[.agg #[.int .i64 8, .int .i64 i, .slice A 2 c]] w fun e w' => e = .returned (.string ⟨(textT (.node 8 i [x, y])).toArray⟩) ∧ Below w.heap.size w w' := by
  obtain ⟨g, o, Aa, ca, Ab, cb, rfl, hg, ha, hb, ta, tb, hc⟩ := kidsY2 ht
  have T0 := Lib.hid (TY.start w 8 i (some ⟨g, o, none⟩) 2 c)
  have lx := text_len x hx
  have ly := text_len y hy
  obtain ⟨sx, hsx⟩ : ∃ sx : ByteArray, sx = ⟨(textT x).toArray⟩ := ⟨_, rfl⟩
  obtain ⟨sy, hsy⟩ : ∃ sy : ByteArray, sy = ⟨(textT y).toArray⟩ := ⟨_, rfl⟩
  obtain ⟨fin, hfin⟩ : ∃ fin : ByteArray, fin = ⟨(textT (.node 8 i [x, y])).toArray⟩ := ⟨_, rfl⟩
  obtain ⟨s0, hs0⟩ : ∃ s0 : ByteArray, s0 = ⟨([40] ++ textT x).toArray⟩ := ⟨_, rfl⟩
  obtain ⟨s1, hs1⟩ : ∃ s1 : ByteArray, s1 = ⟨(([40] ++ textT x) ++ [32, 38, 32]).toArray⟩ := ⟨_, rfl⟩
  obtain ⟨s2, hs2⟩ : ∃ s2 : ByteArray, s2 = ⟨(([40] ++ textT x) ++ [32, 38, 32] ++ textT y).toArray⟩ := ⟨_, rfl⟩
  have a0 : ∀ W : World, (Op.stringOp .add { data := #[40] } sx).run Tryd.prog W = .ok (.string s0) W := fun W => addS (x := [40]) (y := textT x) rfl hsx hs0 rfl (by simp; omega) W
  have a1 : ∀ W : World, (Op.stringOp .add s0 { data := #[32, 38, 32] }).run Tryd.prog W = .ok (.string s1) W := fun W => addS (y := [32, 38, 32]) hs0 rfl hs1 rfl (by simp; omega) W
  have a2 : ∀ W : World, (Op.stringOp .add s1 sy).run Tryd.prog W = .ok (.string s2) W := fun W => addS hs1 hsy hs2 rfl (by simp; omega) W
  have a3 : ∀ W : World, (Op.stringOp .add s2 { data := #[41] }).run Tryd.prog W = .ok (.string fin) W := fun W => addS (y := [41]) hs2 rfl hfin (by simp [textT_eq (.node 8 i [x, y]), nodeX, betwX, Tr.k, Tr.i, Tr.ks]) (by simp; omega) W
  have IX := Lib.hid (fun (W : World) (h : TY w W 8 i (some ⟨g, o, none⟩) 2 c) => IH x Aa ca W (by omega) hx (by omega) (ta.keep h.below h.below.size))
  have IY := Lib.hid (fun (W : World) (h : TY w W 8 i (some ⟨g, o, none⟩) 2 c) => IH y Ab cb W (by omega) hy (by omega) (tb.keep h.below h.below.size))
  rw [← hsx] at IX
  rw [← hsy] at IY
  rw [← hfin]
  have CE := Lib.hid (fun (W : World) (h : TY w W 8 i (some ⟨g, o, none⟩) 2 c) => (show W.cell? ⟨w.heap.size, 2, none⟩ = some (.slice (some ⟨g, o, none⟩) 2 c) ∧ ((W.cell? ⟨g, o, none⟩ = some (.int .i64 x.k) ∧ W.cell? ⟨g, o + 1, none⟩ = some (.int .i64 x.i) ∧ W.cell? ⟨g, o + 2, none⟩ = some (.slice Aa x.ks.length ca)) ∧ (W.cell? ⟨g, o + 3, none⟩ = some (.int .i64 y.k) ∧ W.cell? ⟨g, o + 3 + 1, none⟩ = some (.int .i64 y.i) ∧ W.cell? ⟨g, o + 3 + 2, none⟩ = some (.slice Ab y.ks.length cb))) from
    ⟨h.box.cells.2.2, ⟨(ha.keep h.below hg).c0, (ha.keep h.below hg).c1, (ha.keep h.below hg).c2⟩, (hb.keep h.below hg).c0, (hb.keep h.below hg).c1, (hb.keep h.below hg).c2⟩))
  clear hfin hsx hsy hs0 hs1 hs2 hN hx hy hz ht ha hb ta tb IH lx ly
  obtain ⟨x0, x1, _⟩ := T0.out.box.cells
  go_enter Tryd.func22, Tryd.ntmps22
  go_wp2_with fail
  have E := Lib.hid T0.out.drew
  clear T0 x0 x1
  go_region_held3 (fun w' => w'.cell? ⟨w.heap.size, 2, none⟩ = some (.slice (some ⟨g, o, none⟩) 2 c) ∧ ((w'.cell? ⟨g, o, none⟩ = some (.int .i64 x.k) ∧ w'.cell? ⟨g, o + 1, none⟩ = some (.int .i64 x.i) ∧ w'.cell? ⟨g, o + 2, none⟩ = some (.slice Aa x.ks.length ca)) ∧ (w'.cell? ⟨g, o + 3, none⟩ = some (.int .i64 y.k) ∧ w'.cell? ⟨g, o + 3 + 1, none⟩ = some (.int .i64 y.i) ∧ w'.cell? ⟨g, o + 3 + 2, none⟩ = some (.slice Ab y.ks.length cb))))
    (exact CE.out _ E.out)
    (first
      | (go_at_call 22; (with_reducible refine (IX.out _ E.out).mono ?_); rintro e5 w5 ⟨rfl, hb5⟩; replace E := Lib.hid (E.out.keep hb5); clear hb5)
      | (go_at_call 22; (with_reducible refine (IY.out _ E.out).mono ?_); rintro e5 w5 ⟨rfl, hb5⟩; replace E := Lib.hid (E.out.keep hb5); clear hb5))
  all_goals
    go_wp2_with fail
    go_ret
    exact ⟨rfl, E.out.below⟩
set_option maxHeartbeats 4000000 in
set_option maxRecDepth 100000 in
theorem text9_of {N : Nat} (IH : TW N) (i : Int) (x y : Tr) (A : Option Addr) (c : Nat) (w : World) (hN : x.sz + y.sz ≤ N) (hx : x.shp = true) (hy : y.shp = true) (hz : x.sz + y.sz ≤ 1000) (ht : IsT w w.heap.size (.node 9 i [x, y]) A c) :
    Calls Tryd.prog 22 #[.agg #[.int .i64 9, .int .i64 i, .slice A 2 c]] w fun e w' => e = .returned (.string ⟨(textT (.node 9 i [x, y])).toArray⟩) ∧ Below w.heap.size w w' := by
  obtain ⟨g, o, Aa, ca, Ab, cb, rfl, hg, ha, hb, ta, tb, hc⟩ := kidsY2 ht
  have T0 := Lib.hid (TY.start w 9 i (some ⟨g, o, none⟩) 2 c)
  have lx := text_len x hx
  have ly := text_len y hy
  obtain ⟨sx, hsx⟩ : ∃ sx : ByteArray, sx = ⟨(textT x).toArray⟩ := ⟨_, rfl⟩
  obtain ⟨sy, hsy⟩ : ∃ sy : ByteArray, sy = ⟨(textT y).toArray⟩ := ⟨_, rfl⟩
  obtain ⟨fin, hfin⟩ : ∃ fin : ByteArray, fin = ⟨(textT (.node 9 i [x, y])).toArray⟩ := ⟨_, rfl⟩
  obtain ⟨s0, hs0⟩ : ∃ s0 : ByteArray, s0 = ⟨([40] ++ textT x).toArray⟩ := ⟨_, rfl⟩
  obtain ⟨s1, hs1⟩ : ∃ s1 : ByteArray, s1 = ⟨(([40] ++ textT x) ++ [32, 124, 32]).toArray⟩ := ⟨_, rfl⟩
  obtain ⟨s2, hs2⟩ : ∃ s2 : ByteArray, s2 = ⟨(([40] ++ textT x) ++ [32, 124, 32] ++ textT y).toArray⟩ := ⟨_, rfl⟩
  have a0 : ∀ W : World, (Op.stringOp .add { data := #[40] } sx).run Tryd.prog W = .ok (.string s0) W := fun W => addS (x := [40]) (y := textT x) rfl hsx hs0 rfl (by simp; omega) W
  have a1 : ∀ W : World, (Op.stringOp .add s0 { data := #[32, 124, 32] }).run Tryd.prog W = .ok (.string s1) W := fun W => addS (y := [32, 124, 32]) hs0 rfl hs1 rfl (by simp; omega) W
  have a2 : ∀ W : World, (Op.stringOp .add s1 sy).run Tryd.prog W = .ok (.string s2) W := fun W => addS hs1 hsy hs2 rfl (by simp; omega) W
  have a3 : ∀ W : World, (Op.stringOp .add s2 { data := #[41] }).run Tryd.prog W = .ok (.string fin) W := fun W => addS (y := [41]) hs2 rfl hfin (by simp [textT_eq (.node 9 i [x, y]), nodeX, betwX, Tr.k, Tr.i, Tr.ks]) (by simp; omega) W
  have IX := Lib.hid (fun (W : World) (h : TY w W 9 i (some ⟨g, o, none⟩) 2 c) => IH x Aa ca W (by omega) hx (by omega) (ta.keep h.below h.below.size))
  have IY := Lib.hid (fun (W : World) (h : TY w W 9 i (some ⟨g, o, none⟩) 2 c) => IH y Ab cb W (by omega) hy (by omega) (tb.keep h.below h.below.size))
  rw [← hsx] at IX
  rw [← hsy] at IY
  rw [← hfin]
  have CE := Lib.hid (fun (W : World) (h : TY w W 9 i (some ⟨g, o, none⟩) 2 c) => (show W.cell? ⟨w.heap.size, 2, none⟩ = some (.slice (some ⟨g, o, none⟩) 2 c) ∧ ((W.cell? ⟨g, o, none⟩ = some (.int .i64 x.k) ∧ W.cell? ⟨g, o + 1, none⟩ = some (.int .i64 x.i) ∧ W.cell? ⟨g, o + 2, none⟩ = some (.slice Aa x.ks.length ca)) ∧ (W.cell? ⟨g, o + 3, none⟩ = some (.int .i64 y.k) ∧ W.cell? ⟨g, o + 3 + 1, none⟩ = some (.int .i64 y.i) ∧ W.cell? ⟨g, o + 3 + 2, none⟩ = some (.slice Ab y.ks.length cb))) from
    ⟨h.box.cells.2.2, ⟨(ha.keep h.below hg).c0, (ha.keep h.below hg).c1, (ha.keep h.below hg).c2⟩, (hb.keep h.below hg).c0, (hb.keep h.below hg).c1, (hb.keep h.below hg).c2⟩))
  clear hfin hsx hsy hs0 hs1 hs2 hN hx hy hz ht ha hb ta tb IH lx ly
  obtain ⟨x0, x1, _⟩ := T0.out.box.cells
  go_enter Tryd.func22, Tryd.ntmps22
  go_wp2_with fail
  have E := Lib.hid T0.out.drew
  clear T0 x0 x1
  go_region_held3 (fun w' => w'.cell? ⟨w.heap.size, 2, none⟩ = some (.slice (some ⟨g, o, none⟩) 2 c) ∧ ((w'.cell? ⟨g, o, none⟩ = some (.int .i64 x.k) ∧ w'.cell? ⟨g, o + 1, none⟩ = some (.int .i64 x.i) ∧ w'.cell? ⟨g, o + 2, none⟩ = some (.slice Aa x.ks.length ca)) ∧ (w'.cell? ⟨g, o + 3, none⟩ = some (.int .i64 y.k) ∧ w'.cell? ⟨g, o + 3 + 1, none⟩ = some (.int .i64 y.i) ∧ w'.cell? ⟨g, o + 3 + 2, none⟩ = some (.slice Ab y.ks.length cb))))
    (exact CE.out _ E.out)
    (first
      | (go_at_call 22; (with_reducible refine (IX.out _ E.out).mono ?_); rintro e5 w5 ⟨rfl, hb5⟩; replace E := Lib.hid (E.out.keep hb5); clear hb5)
      | (go_at_call 22; (with_reducible refine (IY.out _ E.out).mono ?_); rintro e5 w5 ⟨rfl, hb5⟩; replace E := Lib.hid (E.out.keep hb5); clear hb5))
  all_goals
    go_wp2_with fail
    go_ret
    exact ⟨rfl, E.out.below⟩
set_option maxHeartbeats 4000000 in
set_option maxRecDepth 100000 in
theorem text7_of {N : Nat} (IH : TW N) (i : Int) (i0 : 0 ≤ i) (i1 : i ≤ 99) (x : Tr) (A : Option Addr) (c : Nat) (w : World) (hN : x.sz ≤ N) (hx : x.shp = true) (hz : x.sz ≤ 1000) (ht : IsT w w.heap.size (.node 7 i [x]) A c) :
    Calls Tryd.prog 22 #[.agg #[.int .i64 7, .int .i64 i, .slice A 1 c]] w fun e w' => e = .returned (.string ⟨(textT (.node 7 i [x])).toArray⟩) ∧ Below w.heap.size w w' := by
  obtain ⟨g, o, Aa, ca, rfl, hg, ha, ta, hc⟩ := kidsY1 ht
  obtain ⟨n, rfl⟩ : ∃ n : Nat, i = n := ⟨i.toNat, by omega⟩
  have HN := Lib.hid (show n < 100 by omega)
  have T0 := Lib.hid (TY.start w 7 (n : Int) (some ⟨g, o, none⟩) 1 c)
  have lx := text_len x hx
  have ld := dec_short n (by omega)
  obtain ⟨sx, hsx⟩ : ∃ sx : ByteArray, sx = ⟨(textT x).toArray⟩ := ⟨_, rfl⟩
  obtain ⟨sd, hsd⟩ : ∃ sd : ByteArray, sd = ⟨(Lib.decDigits n).toArray⟩ := ⟨_, rfl⟩
  obtain ⟨fin, hfin⟩ : ∃ fin : ByteArray, fin = ⟨(textT (.node 7 (n : Int) [x])).toArray⟩ := ⟨_, rfl⟩
  obtain ⟨s0, hs0⟩ : ∃ s0 : ByteArray, s0 = ⟨([64, 120] ++ Lib.decDigits n).toArray⟩ := ⟨_, rfl⟩
  obtain ⟨s1, hs1⟩ : ∃ s1 : ByteArray, s1 = ⟨([64, 120] ++ Lib.decDigits n ++ [32]).toArray⟩ := ⟨_, rfl⟩
  have a0 : ∀ W : World, (Op.stringOp .add { data := #[64, 120] } sd).run Tryd.prog W = .ok (.string s0) W := fun W => addS (x := [64, 120]) rfl hsd hs0 rfl (by simp; omega) W
  have a1 : ∀ W : World, (Op.stringOp .add s0 { data := #[32] }).run Tryd.prog W = .ok (.string s1) W := fun W => addS (y := [32]) hs0 rfl hs1 rfl (by simp; omega) W
  have a2 : ∀ W : World, (Op.stringOp .add s1 sx).run Tryd.prog W = .ok (.string fin) W := fun W => addS hs1 hsx hfin (by simp [textT_eq (.node 7 (n : Int) [x]), nodeX, decT, Tr.k, Tr.i, Tr.ks]) (by simp; omega) W
  have IX := Lib.hid (fun (W : World) (h : TY w W 7 (n : Int) (some ⟨g, o, none⟩) 1 c) => IH x Aa ca W hN hx hz (ta.keep h.below h.below.size))
  have ID := Lib.hid (fun (W : World) => (Tryd.strconv_Itoa_small n HN.out W))
  rw [← hsx] at IX
  rw [← hsd] at ID
  rw [← hfin]
  have CE := Lib.hid (fun (W : World) (h : TY w W 7 (n : Int) (some ⟨g, o, none⟩) 1 c) => (show W.cell? ⟨w.heap.size, 1, none⟩ = some (.int .i64 n) ∧ (W.cell? ⟨w.heap.size, 2, none⟩ = some (.slice (some ⟨g, o, none⟩) 1 c) ∧ (W.cell? ⟨g, o, none⟩ = some (.int .i64 x.k) ∧ W.cell? ⟨g, o + 1, none⟩ = some (.int .i64 x.i) ∧ W.cell? ⟨g, o + 2, none⟩ = some (.slice Aa x.ks.length ca))) from
    ⟨h.box.cells.2.1, h.box.cells.2.2, (ha.keep h.below hg).c0, (ha.keep h.below hg).c1, (ha.keep h.below hg).c2⟩))
  clear hfin hsx hsd hs0 hs1 hN hx hz ht ha ta IH lx ld i0 i1
  obtain ⟨x0, x1, _⟩ := T0.out.box.cells
  go_enter Tryd.func22, Tryd.ntmps22
  go_wp2_with fail
  have E := Lib.hid T0.out.drew
  clear T0 x0 x1
  go_region_held3 (fun w' => w'.cell? ⟨w.heap.size, 1, none⟩ = some (.int .i64 n) ∧ (w'.cell? ⟨w.heap.size, 2, none⟩ = some (.slice (some ⟨g, o, none⟩) 1 c) ∧ (w'.cell? ⟨g, o, none⟩ = some (.int .i64 x.k) ∧ w'.cell? ⟨g, o + 1, none⟩ = some (.int .i64 x.i) ∧ w'.cell? ⟨g, o + 2, none⟩ = some (.slice Aa x.ks.length ca))))
    (exact CE.out _ E.out)
    (first
      | (go_at_call 41; refine (ID.out _).mono ?_; rintro e5 w5 ⟨rfl, hw5⟩; subst hw5)
      | (go_at_call 22; (with_reducible refine (IX.out _ E.out).mono ?_); rintro e5 w5 ⟨rfl, hb5⟩; replace E := Lib.hid (E.out.keep hb5); clear hb5))
  all_goals
    go_wp2_with fail
    go_ret
    exact ⟨rfl, E.out.below⟩
set_option maxHeartbeats 4000000 in
set_option maxRecDepth 100000 in
theorem text10_of {N : Nat} (IH : TW N) (i : Int) (i0 : 0 ≤ i) (i1 : i ≤ 99) (x : Tr) (A : Option Addr) (c : Nat) (w : World) (hN : x.sz ≤ N) (hx : x.shp = true) (hz : x.sz ≤ 1000) (ht : IsT w w.heap.size (.node 10 i [x]) A c) :
    Calls Tryd.prog 22 #[.agg #[.int .i64 10, .int .i64 i, .slice A 1 c]] w fun e w' => e = .returned (.string ⟨(textT (.node 10 i [x])).toArray⟩) ∧ Below w.heap.size w w' := by
  obtain ⟨g, o, Aa, ca, rfl, hg, ha, ta, hc⟩ := kidsY1 ht
  obtain ⟨n, rfl⟩ : ∃ n : Nat, i = n := ⟨i.toNat, by omega⟩
  have HN := Lib.hid (show n < 100 by omega)
  have T0 := Lib.hid (TY.start w 10 (n : Int) (some ⟨g, o, none⟩) 1 c)
  have lx := text_len x hx
  have ld := dec_short n (by omega)
  obtain ⟨sx, hsx⟩ : ∃ sx : ByteArray, sx = ⟨(textT x).toArray⟩ := ⟨_, rfl⟩
  obtain ⟨sd, hsd⟩ : ∃ sd : ByteArray, sd = ⟨(Lib.decDigits n).toArray⟩ := ⟨_, rfl⟩
  obtain ⟨fin, hfin⟩ : ∃ fin : ByteArray, fin = ⟨(textT (.node 10 (n : Int) [x])).toArray⟩ := ⟨_, rfl⟩
  obtain ⟨s0, hs0⟩ : ∃ s0 : ByteArray, s0 = ⟨([63, 120] ++ Lib.decDigits n).toArray⟩ := ⟨_, rfl⟩
  obtain ⟨s1, hs1⟩ : ∃ s1 : ByteArray, s1 = ⟨([63, 120] ++ Lib.decDigits n ++ [32]).toArray⟩ := ⟨_, rfl⟩
  have a0 : ∀ W : World, (Op.stringOp .add { data := #[63, 120] } sd).run Tryd.prog W = .ok (.string s0) W := fun W => addS (x := [63, 120]) rfl hsd hs0 rfl (by simp; omega) W
  have a1 : ∀ W : World, (Op.stringOp .add s0 { data := #[32] }).run Tryd.prog W = .ok (.string s1) W := fun W => addS (y := [32]) hs0 rfl hs1 rfl (by simp; omega) W
  have a2 : ∀ W : World, (Op.stringOp .add s1 sx).run Tryd.prog W = .ok (.string fin) W := fun W => addS hs1 hsx hfin (by simp [textT_eq (.node 10 (n : Int) [x]), nodeX, decT, Tr.k, Tr.i, Tr.ks]) (by simp; omega) W
  have IX := Lib.hid (fun (W : World) (h : TY w W 10 (n : Int) (some ⟨g, o, none⟩) 1 c) => IH x Aa ca W hN hx hz (ta.keep h.below h.below.size))
  have ID := Lib.hid (fun (W : World) => (Tryd.strconv_Itoa_small n HN.out W))
  rw [← hsx] at IX
  rw [← hsd] at ID
  rw [← hfin]
  have CE := Lib.hid (fun (W : World) (h : TY w W 10 (n : Int) (some ⟨g, o, none⟩) 1 c) => (show W.cell? ⟨w.heap.size, 1, none⟩ = some (.int .i64 n) ∧ (W.cell? ⟨w.heap.size, 2, none⟩ = some (.slice (some ⟨g, o, none⟩) 1 c) ∧ (W.cell? ⟨g, o, none⟩ = some (.int .i64 x.k) ∧ W.cell? ⟨g, o + 1, none⟩ = some (.int .i64 x.i) ∧ W.cell? ⟨g, o + 2, none⟩ = some (.slice Aa x.ks.length ca))) from
    ⟨h.box.cells.2.1, h.box.cells.2.2, (ha.keep h.below hg).c0, (ha.keep h.below hg).c1, (ha.keep h.below hg).c2⟩))
  clear hfin hsx hsd hs0 hs1 hN hx hz ht ha ta IH lx ld i0 i1
  obtain ⟨x0, x1, _⟩ := T0.out.box.cells
  go_enter Tryd.func22, Tryd.ntmps22
  go_wp2_with fail
  have E := Lib.hid T0.out.drew
  clear T0 x0 x1
  go_region_held3 (fun w' => w'.cell? ⟨w.heap.size, 1, none⟩ = some (.int .i64 n) ∧ (w'.cell? ⟨w.heap.size, 2, none⟩ = some (.slice (some ⟨g, o, none⟩) 1 c) ∧ (w'.cell? ⟨g, o, none⟩ = some (.int .i64 x.k) ∧ w'.cell? ⟨g, o + 1, none⟩ = some (.int .i64 x.i) ∧ w'.cell? ⟨g, o + 2, none⟩ = some (.slice Aa x.ks.length ca))))
    (exact CE.out _ E.out)
    (first
      | (go_at_call 41; refine (ID.out _).mono ?_; rintro e5 w5 ⟨rfl, hw5⟩; subst hw5)
      | (go_at_call 22; (with_reducible refine (IX.out _ E.out).mono ?_); rintro e5 w5 ⟨rfl, hb5⟩; replace E := Lib.hid (E.out.keep hb5); clear hb5))
  all_goals
    go_wp2_with fail
    go_ret
    exact ⟨rfl, E.out.below⟩
theorem text_all : ∀ N, TW N
  | 0 => fun t A c w hN => by have := sz_pos t; omega
  | N + 1 => by
    have IH := text_all N
    intro t A c w hN hs h1000 ht
    obtain ⟨k, i, ks⟩ := t
    obtain ⟨i0, i1, hc⟩ := shp_node hs
    have hk := fun q hq => shp_kidY hs (q := q) hq
    have hz := sz_eq (.node k i ks)
    simp only [Tr.k, Tr.i, Tr.ks] at i0 i1 hc hk hz
    show Calls Tryd.prog 22 #[.agg #[.int .i64 k, .int .i64 i, .slice A ks.length c]] w _
    rcases hc with ⟨rfl, rfl⟩ | ⟨rfl | rfl, _⟩ | ⟨⟨x, rfl⟩, rfl | rfl | rfl⟩ | ⟨⟨x, y, rfl⟩, rfl | rfl | rfl | rfl⟩
    · exact text1_of i i0 i1 A c w
    · exact text2_of IH i ks A c w hN hs h1000 ht
    · exact text3_of IH i ks A c w hN hs h1000 ht
    all_goals simp only [szL] at hz
    · exact text5_of IH i x A c w (by omega) (hk x (by simp)) (by omega) ht
    · exact text7_of IH i i0 i1 x A c w (by omega) (hk x (by simp)) (by omega) ht
    · exact text10_of IH i i0 i1 x A c w (by omega) (hk x (by simp)) (by omega) ht
    · exact text4_of IH i x y A c w (by omega) (hk x (by simp)) (hk y (by simp)) (by omega) ht
    · exact text6_of IH i x y A c w (by omega) (hk x (by simp)) (hk y (by simp)) (by omega) ht
    · exact text8_of IH i x y A c w (by omega) (hk x (by simp)) (hk y (by simp)) (by omega) ht
    · exact text9_of IH i x y A c w (by omega) (hk x (by simp)) (hk y (by simp)) (by omega) ht
end Go.Proofs.YtgnfbhemkombaaaDoor
