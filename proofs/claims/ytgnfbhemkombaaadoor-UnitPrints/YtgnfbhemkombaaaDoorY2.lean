/- write of package parse, and what it calls. -/
import Derived.Test.YtgnfbhemkombaaaDoorY1
namespace Go.Proofs.YtgnfbhemkombaaaDoor
open Go.RowKit
set_option linter.unusedVariables false
set_option linter.unusedSimpArgs false
/-- write, of trees up to a size -/
def WW (N : Nat) : Prop := ∀ (t : Tr) (A : Option Addr) (c B b : Nat) (l : List UInt8) (w : World), t.sz ≤ N → t.shp = true → IsT w B t A c → BU B b l w → B ≤ w.heap.size → l.length + 5 * t.sz ≤ 100000 →
  Calls Tryd.prog 20 #[.pointer (some ⟨b, 0, none⟩), .agg #[.int .i64 t.k, .int .i64 t.i, .slice A t.ks.length c]] w (WrI w B b (l ++ textT t))
def sepX : Nat → List UInt8
  | 0 => [40]
  | _ + 1 => [44, 32]
theorem sepX_len (m : Nat) : (sepX m).length ≤ 2 := by cases m <;> simp [sepX]
/-- what stands ahead of the closing parenthesis -/
def preX : List (List UInt8) → List UInt8
  | [] => []
  | x :: r => [40] ++ x ++ commasT r
theorem commas_snoc (r : List (List UInt8)) (y : List UInt8) : commasT (r ++ [y]) = commasT r ++ [44, 32] ++ y := by
  induction r with
  | nil => simp [commasT]
  | cons x r ih => simp [commasT, ih]
theorem preX_take (xs : List (List UInt8)) (m : Nat) (h : m < xs.length) : preX (xs.take (m + 1)) = preX (xs.take m) ++ (sepX m ++ xs[m]) := by
  cases xs with
  | nil => simp at h
  | cons x r =>
    cases m with
    | zero => simp [preX, sepX, commasT]
    | succ m =>
      have hr : m < r.length := by simpa using h
      show [40] ++ x ++ commasT (r.take (m + 1)) = [40] ++ x ++ commasT (r.take m) ++ ([44, 32] ++ r[m])
      rw [List.take_succ_eq_append_getElem hr, commas_snoc]
      simp
theorem listX_pre (xs : List (List UInt8)) (h : xs ≠ []) : listX xs = preX xs ++ [41] := by
  cases xs with
  | nil => exact absurd rfl h
  | cons x r => simp [listX, preX]
theorem preX_len (l : List Tr) (h : ∀ q ∈ l, (textT q).length + 2 ≤ 5 * q.sz) : (preX (l.map textT)).length ≤ 5 * szL l := by
  cases l with
  | nil => simp [preX]
  | cons t r =>
    have h1 := h t (by simp)
    have h2 := commas_len r fun q hq => h q (by simp [hq])
    simp only [List.map_cons, preX, List.length_append, szL, List.length_cons, List.length_nil]
    omega
set_option maxHeartbeats 2000000 in
set_option maxRecDepth 100000 in
theorem wbetw_of {N : Nat} (IH : WW N) (k i : Int) (x y : Tr) (A : Option Addr) (c B b : Nat) (l s : List UInt8) (S : ByteArray) (hS : S = ⟨s.toArray⟩) (w : World) (hN : x.sz + y.sz ≤ N) (hx : x.shp = true) (hy : y.shp = true) (ht : IsT w B (.node k i [x, y]) A c) (hu : BU B b l w) (hB : B ≤ w.heap.size) (hs : s.length ≤ 3) (hl : l.length + 5 * (x.sz + y.sz + 1) ≤ 100002) :
    Calls Tryd.prog 46 #[.pointer (some ⟨b, 0, none⟩), .string S, .agg #[.int .i64 k, .int .i64 i, .slice A 2 c]] w (WrI w B b (l ++ betwX s [textT x, textT y])) := by
  obtain ⟨g, o, Aa, ca, Ab, cb, rfl, hg, ha, hb, ta, tb, hc⟩ := kidsY2 ht
  have lx := text_len x hx
  have ly := text_len y hy
  have px := sz_pos x
  have py := sz_pos y
  have KA := Lib.hid (KY.al (b := b) hB (.cells #[.int .i64 k, .int .i64 i, .slice (some ⟨g, o, none⟩) 2 c] 24))
  have BX := Lib.hid (Box3.new w (.int .i64 k) (.int .i64 i) (.slice (some ⟨g, o, none⟩) 2 c))
  have NE := Lib.hid (show w.heap.size ≠ b by have := hu.lt; omega)
  have U0 := Lib.hid (hu.alloc (.cells #[.int .i64 k, .int .i64 i, .slice (some ⟨g, o, none⟩) 2 c] 24))
  have CA := Lib.hid (fun (W : World) (h : KY B b w W) => (⟨ha.keep h.below hg, hb.keep h.below hg⟩ : CelY W g o x Aa ca ∧ CelY W g (o + 3) y Ab cb))
  have TA := Lib.hid (fun (W : World) (h : KY B b w W) => (⟨ta.keep h.below (Nat.le_refl _), tb.keep h.below (Nat.le_refl _)⟩ : IsT W B x Aa ca ∧ IsT W B y Ab cb))
  have HB := Lib.hid hB
  have HS := Lib.hid hS
  have IX := Lib.hid (fun (A : Option Addr) (c : Nat) (l : List UInt8) (W : World) => IH x A c B b l W (by omega) hx)
  have IY := Lib.hid (fun (A : Option Addr) (c : Nat) (l : List UInt8) (W : World) => IH y A c B b l W (by omega) hy)
  have L0 := Lib.hid hl
  have LX := Lib.hid (And.intro lx (And.intro ly (And.intro px (And.intro py hs))))
  clear ht hu hB hS hN hx hy hl lx ly px py hs ta tb IH
  have B0 := Lib.hid BX.out
  obtain ⟨x0, x1, x2⟩ := B0.out.cells
  obtain ⟨⟨a0, a1, a2⟩, _⟩ := CA.out _ KA.out
  go_enter Tryd.func46, Tryd.ntmps46
  go_wp2_with fail
  refine (IX.out Aa ca l _ (TA.out _ KA.out).1 U0.out (Nat.le_trans HB.out KA.out.size) (by have := L0.out; have := LX.out; omega)).mono ?_
  rintro e w1 ⟨rfl, u1, k1⟩
  have K1 := Lib.hid (KA.out.trans k1)
  have B1 := Lib.hid (k1.box NE.out B0.out)
  have U1 := Lib.hid u1
  clear u1 k1 x0 x1 x2 a0 a1 a2
  go_wp2_with fail
  refine (wstr B b (l ++ textT x) s S HS.out _ U1.out (by have := L0.out; have := LX.out; simp; omega) (Nat.le_trans HB.out K1.out.size)).mono ?_
  rintro e w2 ⟨n2, rfl, u2, k2⟩
  have K2 := Lib.hid (K1.out.trans k2)
  have B2 := Lib.hid (k2.box NE.out B1.out)
  have U2 := Lib.hid u2
  clear u2 k2
  obtain ⟨x0, x1, x2⟩ := B2.out.cells
  obtain ⟨_, ⟨a0, a1, a2⟩⟩ := CA.out _ K2.out
  go_wp2_with fail
  refine (IY.out Ab cb (l ++ textT x ++ s) _ (TA.out _ K2.out).2 U2.out (Nat.le_trans HB.out K2.out.size) (by have := L0.out; have := LX.out; simp; omega)).mono ?_
  rintro e w3 ⟨rfl, u3, k3⟩
  have K3 := Lib.hid (K2.out.trans k3)
  have U3 := Lib.hid u3
  clear u3 k3 x0 x1 x2 a0 a1 a2
  go_wp2_with fail
  go_end0
  exact ⟨rfl, by simpa [betwX, decT] using U3.out, K3.out⟩
set_option maxHeartbeats 2000000 in
set_option maxRecDepth 100000 in
theorem wpar_of {N : Nat} (IH : WW N) (k i : Int) (x y : Tr) (A : Option Addr) (c B b : Nat) (l s : List UInt8) (S : ByteArray) (hS : S = ⟨s.toArray⟩) (w : World) (hN : x.sz + y.sz ≤ N) (hx : x.shp = true) (hy : y.shp = true) (ht : IsT w B (.node k i [x, y]) A c) (hu : BU B b l w) (hB : B ≤ w.heap.size) (hs : s.length ≤ 3) (hl : l.length + 5 * (x.sz + y.sz + 1) ≤ 100000) :
    Calls Tryd.prog 49 #[.pointer (some ⟨b, 0, none⟩), .string S, .agg #[.int .i64 k, .int .i64 i, .slice A 2 c]] w (WrI w B b (l ++ ([40] ++ betwX s [textT x, textT y] ++ [41]))) := by
  have lx := text_len x hx
  have ly := text_len y hy
  have KA := Lib.hid (KY.al (b := b) hB (.cells #[.int .i64 k, .int .i64 i, .slice A 2 c] 24))
  have B0 := Lib.hid (Box3.new w (.int .i64 k) (.int .i64 i) (.slice A 2 c))
  have NE := Lib.hid (show w.heap.size ≠ b by have := hu.lt; omega)
  have U0 := Lib.hid (hu.alloc (.cells #[.int .i64 k, .int .i64 i, .slice A 2 c] 24))
  have TA := Lib.hid (fun (W : World) (h : KY B b w W) => (ht.keep h.below (Nat.le_refl _) : IsT W B (.node k i [x, y]) A c))
  have HB := Lib.hid hB
  have WB := Lib.hid (fun (l : List UInt8) (W : World) (h : KY B b w W) (hu : BU B b l W) (hl : l.length + 5 * (x.sz + y.sz + 1) ≤ 100002) => wbetw_of IH k i x y A c B b l s S hS W hN hx hy (TA.out W h) hu (Nat.le_trans hB h.size) hs hl)
  have L0 := Lib.hid hl
  have LX := Lib.hid (And.intro lx (And.intro ly hs))
  have hl2 : (betwX s [textT x, textT y]).length = (textT x).length + s.length + (textT y).length := by simp [betwX]; omega
  have LB := Lib.hid hl2
  clear ht hu hB hS hN hx hy hl lx ly hs IH hl2
  obtain ⟨x0, x1, x2⟩ := B0.out.cells
  go_enter Tryd.func49, Tryd.ntmps49
  go_wp2_with fail
  refine (wbyte B b l 40 _ rfl _ U0.out (by have := L0.out; omega) (Nat.le_trans HB.out KA.out.size)).mono ?_
  rintro e w1 ⟨rfl, u1, k1⟩
  have K1 := Lib.hid (KA.out.trans k1)
  have B1 := Lib.hid (k1.box NE.out B0.out)
  have U1 := Lib.hid u1
  clear u1 k1 x0 x1 x2
  obtain ⟨x0, x1, x2⟩ := B1.out.cells
  go_wp2_with fail
  refine (WB.out (l ++ [40]) _ K1.out U1.out (by have := L0.out; simp; omega)).mono ?_
  rintro e w2 ⟨rfl, u2, k2⟩
  have K2 := Lib.hid (K1.out.trans k2)
  have U2 := Lib.hid u2
  clear u2 k2 x0 x1 x2
  go_wp2_with fail
  refine (wbyte B b (l ++ [40] ++ betwX s [textT x, textT y]) 41 _ rfl _ U2.out (by have := L0.out; have := LX.out; have := LB.out; simp; omega) (Nat.le_trans HB.out K2.out.size)).mono ?_
  rintro e w3 ⟨rfl, u3, k3⟩
  have K3 := Lib.hid (K2.out.trans k3)
  have U3 := Lib.hid u3
  clear u3 k3
  go_wp2_with fail
  go_end0
  exact ⟨rfl, by simpa [betwX, decT] using U3.out, K3.out⟩
set_option maxHeartbeats 2000000 in
set_option maxRecDepth 100000 in
theorem wquant_of {N : Nat} (IH : WW N) (k i : Int) (i0 : 0 ≤ i) (i1 : i ≤ 99) (x : Tr) (A : Option Addr) (c B b : Nat) (l : List UInt8) (u : UInt8) (v : Int) (hv : v = (u.toNat : Int)) (w : World) (hN : x.sz ≤ N) (hx : x.shp = true) (ht : IsT w B (.node k i [x]) A c) (hu : BU B b l w) (hB : B ≤ w.heap.size) (hl : l.length + 5 * (x.sz + 1) ≤ 100000) :
    Calls Tryd.prog 48 #[.pointer (some ⟨b, 0, none⟩), .int .u8 v, .agg #[.int .i64 k, .int .i64 i, .slice A 1 c]] w (WrI w B b (l ++ ([u, 120] ++ decT i ++ [32] ++ textT x))) := by
  obtain ⟨g, o, Aa, ca, rfl, hg, ha, ta, hc⟩ := kidsY1 ht
  have KA := Lib.hid (KY.al (b := b) hB (.cells #[.int .i64 k, .int .i64 i, .slice (some ⟨g, o, none⟩) 1 c] 24))
  have B0 := Lib.hid (Box3.new w (.int .i64 k) (.int .i64 i) (.slice (some ⟨g, o, none⟩) 1 c))
  have NE := Lib.hid (show w.heap.size ≠ b by have := hu.lt; omega)
  have U0 := Lib.hid (hu.alloc (.cells #[.int .i64 k, .int .i64 i, .slice (some ⟨g, o, none⟩) 1 c] 24))
  have CA := Lib.hid (fun (W : World) (h : KY B b w W) => (ha.keep h.below hg : CelY W g o x Aa ca))
  have TA := Lib.hid (fun (W : World) (h : KY B b w W) => (ta.keep h.below (Nat.le_refl _) : IsT W B x Aa ca))
  have HB := Lib.hid hB
  have HV := Lib.hid hv
  have II := Lib.hid (And.intro i0 i1)
  have HD := Lib.hid (show (decT i).length ≤ 2 from dec_short _ (by omega))
  have IX := Lib.hid (fun (A : Option Addr) (c : Nat) (l : List UInt8) (W : World) => IH x A c B b l W (by omega) hx)
  have L0 := Lib.hid hl
  clear ht hu hB hv hN hx hl ta IH i0 i1
  obtain ⟨x0, x1, x2⟩ := B0.out.cells
  go_enter Tryd.func48, Tryd.ntmps48
  go_wp2_with fail
  refine (wbyte B b l u v HV.out _ U0.out (by have := L0.out; omega) (Nat.le_trans HB.out KA.out.size)).mono ?_
  rintro e w1 ⟨rfl, u1, k1⟩
  have K1 := Lib.hid (KA.out.trans k1)
  have B1 := Lib.hid (k1.box NE.out B0.out)
  have U1 := Lib.hid u1
  clear u1 k1 x0 x1 x2
  obtain ⟨x0, x1, x2⟩ := B1.out.cells
  go_wp2_with fail
  refine (wnum B b (l ++ [u]) 120 _ rfl i II.out.1 II.out.2 _ U1.out (by have := L0.out; simp; omega) (Nat.le_trans HB.out K1.out.size)).mono ?_
  rintro e w2 ⟨rfl, u2, k2⟩
  have K2 := Lib.hid (K1.out.trans k2)
  have B2 := Lib.hid (k2.box NE.out B1.out)
  have U2 := Lib.hid u2
  clear u2 k2 x0 x1 x2
  obtain ⟨x0, x1, x2⟩ := B2.out.cells
  go_wp2_with fail
  refine (wbyte B b (l ++ [u] ++ ([120] ++ decT i)) 32 _ rfl _ U2.out (by have := L0.out; have := HD.out; simp; omega) (Nat.le_trans HB.out K2.out.size)).mono ?_
  rintro e w3 ⟨rfl, u3, k3⟩
  have K3 := Lib.hid (K2.out.trans k3)
  have B3 := Lib.hid (k3.box NE.out B2.out)
  have U3 := Lib.hid u3
  clear u3 k3 x0 x1 x2
  obtain ⟨x0, x1, x2⟩ := B3.out.cells
  obtain ⟨a0, a1, a2⟩ := CA.out _ K3.out
  go_wp2_with fail
  refine (IX.out Aa ca (l ++ [u] ++ ([120] ++ decT i) ++ [32]) _ (TA.out _ K3.out) U3.out (Nat.le_trans HB.out K3.out.size) (by have := L0.out; have := HD.out; simp; omega)).mono ?_
  rintro e w4 ⟨rfl, u4, k4⟩
  have K4 := Lib.hid (K3.out.trans k4)
  have U4 := Lib.hid u4
  clear u4 k4 x0 x1 x2 a0 a1 a2
  go_wp2_with fail
  go_end0
  exact ⟨rfl, by simpa [betwX, decT] using U4.out, K4.out⟩
set_option maxHeartbeats 4000000 in
set_option maxRecDepth 100000 in
theorem wsym_of {N : Nat} (IH : WW N) (t : Tr) (A : Option Addr) (c B b : Nat) (l : List UInt8) (u : UInt8) (v : Int) (hv : v = (u.toNat : Int)) (w : World) (hN : t.sz ≤ N + 1) (hs : t.shp = true) (ht : IsT w B t A c) (hu : BU B b l w) (hB : B ≤ w.heap.size) (hl : l.length + 5 * t.sz ≤ 100000) :
    Calls Tryd.prog 45 #[.pointer (some ⟨b, 0, none⟩), .int .u8 v, .agg #[.int .i64 t.k, .int .i64 t.i, .slice A t.ks.length c]] w (WrI w B b (l ++ ([u] ++ decT t.i ++ listX (t.ks.map textT)))) := by
  obtain ⟨i0, i1, _⟩ := shp_node hs
  have KA := Lib.hid (KY.al (b := b) hB (.cells #[.int .i64 t.k, .int .i64 t.i, .slice A t.ks.length c] 24))
  have B0 := Lib.hid (Box3.new w (.int .i64 t.k) (.int .i64 t.i) (.slice A t.ks.length c))
  have NE := Lib.hid (show w.heap.size ≠ b by have := hu.lt; omega)
  have HBb := Lib.hid hu.lt
  have U0 := Lib.hid (hu.alloc (.cells #[.int .i64 t.k, .int .i64 t.i, .slice A t.ks.length c] 24))
  have HT := Lib.hid ht
  have hlen := ht.len
  have HB := Lib.hid hB
  have HV := Lib.hid hv
  have II := Lib.hid (And.intro i0 i1)
  have HD := Lib.hid (show (decT t.i).length ≤ 2 from dec_short _ (by omega))
  have hz := sz_eq t
  have PL := Lib.hid (fun (m : Nat) => (show (preX ((t.ks.take m).map textT)).length ≤ 5 * szL (t.ks.take m) from preX_len _ (fun q hq => text_len q (shp_kidY hs (List.mem_of_mem_take hq)))))
  have ST := Lib.hid (fun (m : Nat) (h : m < t.ks.length) => (⟨szL_take t.ks m h, szL_take_le t.ks (m + 1)⟩ : szL (t.ks.take (m + 1)) = szL (t.ks.take m) + t.ks[m].sz ∧ szL (t.ks.take (m + 1)) ≤ szL t.ks))
  have IK := Lib.hid (fun (m : Nat) (h : m < t.ks.length) (A : Option Addr) (c : Nat) (l : List UInt8) (W : World) => IH t.ks[m] A c B b l W (by have := kid_sz t m h; omega) (shp_kidY hs (List.getElem_mem h)))
  have L0 := Lib.hid (show l.length + 5 * (1 + szL t.ks) ≤ 100000 by omega)
  have PT := Lib.hid (fun (m : Nat) (h : m < t.ks.length) => (show preX ((t.ks.take (m + 1)).map textT) = preX ((t.ks.take m).map textT) ++ (sepX m ++ textT t.ks[m]) by
    rw [List.map_take, List.map_take, preX_take _ m (by simpa using h), List.getElem_map]))
  clear hu hB hv hN hs hl ht IH i0 i1 hz
  obtain ⟨x0, x1, x2⟩ := B0.out.cells
  go_enter Tryd.func45, Tryd.ntmps45
  go_wp2_with fail
  refine (wnum B b l u v HV.out t.i II.out.1 II.out.2 _ U0.out (by have := L0.out; omega) (Nat.le_trans HB.out KA.out.size)).mono ?_
  rintro e w1 ⟨rfl, u1, k1⟩
  have K1 := Lib.hid (KA.out.trans k1)
  have B1 := Lib.hid (k1.box NE.out B0.out)
  have U1 := Lib.hid u1
  clear u1 k1 x0 x1 x2
  obtain ⟨x0, x1, x2⟩ := B1.out.cells
  by_cases h0 : t.ks.length = 0
  · have hd : ((t.ks.length : Int) == 0) = true := by rw [beq_iff_eq]; omega
    have HE := Lib.hid (show listX (t.ks.map textT) = [] by rw [List.eq_nil_of_length_eq_zero h0]; rfl)
    clear h0
    go_wp2_with fail
    go_end0
    exact ⟨rfl, by rw [HE.out, List.append_nil]; exact U1.out, K1.out⟩
  · have hd : ((t.ks.length : Int) == 0) = false := by rw [beq_eq_false_iff_ne]; omega
    have HE := Lib.hid (listX_pre (t.ks.map textT) (by intro e; apply h0; have := congrArg List.length e; simpa using this))
    clear h0
    go_wp2_with fail
    go_loopw [6, 21] (fun s i wr => ∃ m : Nat, m ≤ t.ks.length ∧ i = .int .i64 m ∧ s = .string ⟨(sepX m).toArray⟩ ∧ BU B b (l ++ ([u] ++ decT t.i) ++ preX ((t.ks.take m).map textT)) wr ∧ KY B b w wr ∧ Box3 wr w.heap.size (.int .i64 t.k) (.int .i64 t.i) (.slice A t.ks.length c)) (fun _ i _ => t.ks.length - (intOf i).toNat)
    case atStart => exact ⟨0, Nat.zero_le _, rfl, rfl, by simpa [preX] using U1.out, K1.out, B1.out⟩
    case round =>
      obtain ⟨m, hm', rfl, rfl, hu2, hk2, hb2⟩ := hrel
      clear x0 x1 x2
      have U2 := Lib.hid hu2
      have K2 := Lib.hid hk2
      have B2 := Lib.hid hb2
      clear hu2 hk2 hb2
      by_cases hlt : m < t.ks.length
      · obtain ⟨g, o, A', c', rfl, hg, c0, c1, c2, hk⟩ := HT.out.kid m hlt
        have d0 := (K2.out.below.cell hg).trans c0
        have d1 := (K2.out.below.cell hg).trans c1
        have d2 := (K2.out.below.cell hg).trans c2
        have TK := Lib.hid (fun (W : World) (h : KY B b w W) => (hk.keep h.below (Nat.le_refl _) : IsT W B t.ks[m] A' c'))
        have IQ := Lib.hid (IK.out m hlt A' c')
        have SQ := Lib.hid (ST.out m hlt)
        have PQ := Lib.hid (PT.out m hlt)
        have LM := Lib.hid (PL.out m)
        obtain ⟨q, hq⟩ : ∃ q, q = t.ks[m] := ⟨_, rfl⟩
        rw [← hq] at TK IQ SQ PQ d0 d1 d2
        clear hq c0 c1 c2 hk
        have AL := Lib.hid (KY.al (b := b) (Nat.le_trans HB.out K2.out.size) (.cells #[.int .i64 q.k, .int .i64 q.i, .slice A' q.ks.length c'] 24))
        have NQ := Lib.hid (show wr.heap.size ≠ b by have := HBb.out; have := K2.out.size; omega)
        have BQ := Lib.hid (Box3.new wr (.int .i64 q.k) (.int .i64 q.i) (.slice A' q.ks.length c'))
        have B3 := Lib.hid (AL.out.box NE.out B2.out)
        have K3 := Lib.hid (K2.out.trans AL.out)
        have U3 := Lib.hid (U2.out.alloc (.cells #[.int .i64 q.k, .int .i64 q.i, .slice A' q.ks.length c'] 24))
        clear U2 K2 B2 AL
        go_wp2_with fail
        refine (wstr B b _ (sepX m) _ rfl _ U3.out (by have := L0.out; have := LM.out; have := HD.out; have := sepX_len m; have := SQ.out; simp only [List.length_append, List.length_cons, List.length_nil]; omega) (Nat.le_trans HB.out K3.out.size)).mono ?_
        rintro e w4 ⟨n4, rfl, u4, k4⟩
        have K4 := Lib.hid (K3.out.trans k4)
        have B4 := Lib.hid (k4.box NE.out B3.out)
        have Q4 := Lib.hid (k4.box NQ.out BQ.out)
        have U4 := Lib.hid u4
        clear u4 k4 d0 d1 d2 B3 BQ K3 U3
        obtain ⟨y0, y1, y2⟩ := Q4.out.cells
        go_wp2_with fail
        refine (IQ.out _ _ (by exact TK.out _ K4.out) U4.out (Nat.le_trans HB.out K4.out.size) (by have := L0.out; have := LM.out; have := HD.out; have := sepX_len m; have := SQ.out; simp only [List.length_append, List.length_cons, List.length_nil]; omega)).mono ?_
        rintro e w5 ⟨rfl, u5, k5⟩
        have K5 := Lib.hid (K4.out.trans k5)
        have B5 := Lib.hid (k5.box NE.out B4.out)
        have U5 := Lib.hid u5
        clear u5 k5 y0 y1 y2
        go_wp2_with fail
        go_roundw
        case rel => exact ⟨m + 1, by omega, by go_num, rfl, by rw [PQ.out]; simpa using U5.out, K5.out, B5.out⟩
        case measure => simp [intOf]; omega
      · obtain rfl : m = t.ks.length := by omega
        rw [List.take_length] at U2
        have LM := Lib.hid (by have h := PL.out t.ks.length; rw [List.take_length] at h; exact h : (preX (t.ks.map textT)).length ≤ 5 * szL t.ks)
        go_wp2_with fail
        refine (wbyte B b _ 41 _ rfl _ U2.out (by have := L0.out; have := HD.out; have := LM.out; simp only [List.length_append, List.length_cons, List.length_nil]; omega) (Nat.le_trans HB.out K2.out.size)).mono ?_
        rintro e w3 ⟨rfl, u3, k3⟩
        have K3 := Lib.hid (K2.out.trans k3)
        have U3 := Lib.hid u3
        clear u3 k3
        go_wp2_with fail
        go_end0
        exact ⟨rfl, by rw [HE.out]; simpa using U3.out, K3.out⟩
set_option maxHeartbeats 2000000 in
set_option maxRecDepth 100000 in
theorem write1_of {N : Nat} (IH : WW N) (i : Int) (ks : List Tr) (A : Option Addr) (c B b : Nat) (l : List UInt8) (w : World) (hN : (Tr.node 1 i ks).sz ≤ N + 1) (hs : (Tr.node 1 i ks).shp = true) (ht : IsT w B (.node 1 i ks) A c) (hu : BU B b l w) (hB : B ≤ w.heap.size) (hl : l.length + 5 * (Tr.node 1 i ks).sz ≤ 100000) :
    Calls Tryd.prog 20 #[.pointer (some ⟨b, 0, none⟩), .agg #[.int .i64 1, .int .i64 i, .slice A ks.length c]] w (WrI w B b (l ++ textT (.node 1 i ks))) := by
  have KA := Lib.hid (KY.al (b := b) hB (.cells #[.int .i64 1, .int .i64 i, .slice A ks.length c] 24))
  have B0 := Lib.hid (Box3.new w (.int .i64 1) (.int .i64 i) (.slice A ks.length c))
  have WS := Lib.hid (fun (W : World) (h : KY B b w W) (hu : BU B b l W) => (show Calls Tryd.prog 45 #[.pointer (some ⟨b, 0, none⟩), .int .u8 120, .agg #[.int .i64 1, .int .i64 i, .slice A ks.length c]] W (WrI W B b (l ++ textT (.node 1 i ks))) from by
    rw [textT_eq]
    exact wsym_of IH (.node 1 i ks) A c B b l 120 120 rfl W hN hs (ht.keep h.below (Nat.le_refl _)) hu (Nat.le_trans hB h.size) hl))
  have U0 := Lib.hid (hu.alloc (.cells #[.int .i64 1, .int .i64 i, .slice A ks.length c] 24))
  clear hN hs ht hu hB hl IH
  obtain ⟨x0, x1, x2⟩ := B0.out.cells
  go_enter Tryd.func20, Tryd.ntmps20
  go_wp2_with fail
  refine (WS.out _ KA.out U0.out).mono ?_
  rintro e w1 ⟨rfl, u1, k1⟩
  have K1 := Lib.hid (KA.out.trans k1)
  have U1 := Lib.hid u1
  clear u1 k1 x0 x1 x2
  go_wp2_with fail
  go_end0
  exact ⟨rfl, U1.out, K1.out⟩
set_option maxHeartbeats 2000000 in
set_option maxRecDepth 100000 in
theorem write2_of {N : Nat} (IH : WW N) (i : Int) (ks : List Tr) (A : Option Addr) (c B b : Nat) (l : List UInt8) (w : World) (hN : (Tr.node 2 i ks).sz ≤ N + 1) (hs : (Tr.node 2 i ks).shp = true) (ht : IsT w B (.node 2 i ks) A c) (hu : BU B b l w) (hB : B ≤ w.heap.size) (hl : l.length + 5 * (Tr.node 2 i ks).sz ≤ 100000) :
    Calls Tryd.prog 20 #[.pointer (some ⟨b, 0, none⟩), .agg #[.int .i64 2, .int .i64 i, .slice A ks.length c]] w (WrI w B b (l ++ textT (.node 2 i ks))) := by
  have KA := Lib.hid (KY.al (b := b) hB (.cells #[.int .i64 2, .int .i64 i, .slice A ks.length c] 24))
  have B0 := Lib.hid (Box3.new w (.int .i64 2) (.int .i64 i) (.slice A ks.length c))
  have WS := Lib.hid (fun (W : World) (h : KY B b w W) (hu : BU B b l W) => (show Calls Tryd.prog 45 #[.pointer (some ⟨b, 0, none⟩), .int .u8 102, .agg #[.int .i64 2, .int .i64 i, .slice A ks.length c]] W (WrI W B b (l ++ textT (.node 2 i ks))) from by
    rw [textT_eq]
    exact wsym_of IH (.node 2 i ks) A c B b l 102 102 rfl W hN hs (ht.keep h.below (Nat.le_refl _)) hu (Nat.le_trans hB h.size) hl))
  have U0 := Lib.hid (hu.alloc (.cells #[.int .i64 2, .int .i64 i, .slice A ks.length c] 24))
  clear hN hs ht hu hB hl IH
  obtain ⟨x0, x1, x2⟩ := B0.out.cells
  go_enter Tryd.func20, Tryd.ntmps20
  go_wp2_with fail
  refine (WS.out _ KA.out U0.out).mono ?_
  rintro e w1 ⟨rfl, u1, k1⟩
  have K1 := Lib.hid (KA.out.trans k1)
  have U1 := Lib.hid u1
  clear u1 k1 x0 x1 x2
  go_wp2_with fail
  go_end0
  exact ⟨rfl, U1.out, K1.out⟩
set_option maxHeartbeats 2000000 in
set_option maxRecDepth 100000 in
theorem write3_of {N : Nat} (IH : WW N) (i : Int) (ks : List Tr) (A : Option Addr) (c B b : Nat) (l : List UInt8) (w : World) (hN : (Tr.node 3 i ks).sz ≤ N + 1) (hs : (Tr.node 3 i ks).shp = true) (ht : IsT w B (.node 3 i ks) A c) (hu : BU B b l w) (hB : B ≤ w.heap.size) (hl : l.length + 5 * (Tr.node 3 i ks).sz ≤ 100000) :
    Calls Tryd.prog 20 #[.pointer (some ⟨b, 0, none⟩), .agg #[.int .i64 3, .int .i64 i, .slice A ks.length c]] w (WrI w B b (l ++ textT (.node 3 i ks))) := by
  have KA := Lib.hid (KY.al (b := b) hB (.cells #[.int .i64 3, .int .i64 i, .slice A ks.length c] 24))
  have B0 := Lib.hid (Box3.new w (.int .i64 3) (.int .i64 i) (.slice A ks.length c))
  have WS := Lib.hid (fun (W : World) (h : KY B b w W) (hu : BU B b l W) => (show Calls Tryd.prog 45 #[.pointer (some ⟨b, 0, none⟩), .int .u8 80, .agg #[.int .i64 3, .int .i64 i, .slice A ks.length c]] W (WrI W B b (l ++ textT (.node 3 i ks))) from by
    rw [textT_eq]
    exact wsym_of IH (.node 3 i ks) A c B b l 80 80 rfl W hN hs (ht.keep h.below (Nat.le_refl _)) hu (Nat.le_trans hB h.size) hl))
  have U0 := Lib.hid (hu.alloc (.cells #[.int .i64 3, .int .i64 i, .slice A ks.length c] 24))
  clear hN hs ht hu hB hl IH
  obtain ⟨x0, x1, x2⟩ := B0.out.cells
  go_enter Tryd.func20, Tryd.ntmps20
  go_wp2_with fail
  refine (WS.out _ KA.out U0.out).mono ?_
  rintro e w1 ⟨rfl, u1, k1⟩
  have K1 := Lib.hid (KA.out.trans k1)
  have U1 := Lib.hid u1
  clear u1 k1 x0 x1 x2
  go_wp2_with fail
  go_end0
  exact ⟨rfl, U1.out, K1.out⟩
set_option maxHeartbeats 2000000 in
set_option maxRecDepth 100000 in
theorem write4_of {N : Nat} (IH : WW N) (i : Int) (x y : Tr) (A : Option Addr) (c B b : Nat) (l : List UInt8) (w : World) (hN : x.sz + y.sz ≤ N) (hx : x.shp = true) (hy : y.shp = true) (ht : IsT w B (.node 4 i [x, y]) A c) (hu : BU B b l w) (hB : B ≤ w.heap.size) (hl : l.length + 5 * (x.sz + y.sz + 1) ≤ 100000) :
    Calls Tryd.prog 20 #[.pointer (some ⟨b, 0, none⟩), .agg #[.int .i64 4, .int .i64 i, .slice A 2 c]] w (WrI w B b (l ++ textT (.node 4 i [x, y]))) := by
  have KA := Lib.hid (KY.al (b := b) hB (.cells #[.int .i64 4, .int .i64 i, .slice A 2 c] 24))
  have B0 := Lib.hid (Box3.new w (.int .i64 4) (.int .i64 i) (.slice A 2 c))
  have WS := Lib.hid (fun (W : World) (h : KY B b w W) (hu : BU B b l W) => (show Calls Tryd.prog 46 #[.pointer (some ⟨b, 0, none⟩), .string { data := #[32, 61, 32] }, .agg #[.int .i64 4, .int .i64 i, .slice A 2 c]] W (WrI W B b (l ++ textT (.node 4 i [x, y]))) from by
    rw [textT_eq]
    exact wbetw_of IH 4 i x y A c B b l [32, 61, 32] _ rfl W hN hx hy (ht.keep h.below (Nat.le_refl _)) hu (Nat.le_trans hB h.size) (by decide) (by omega)))
  have U0 := Lib.hid (hu.alloc (.cells #[.int .i64 4, .int .i64 i, .slice A 2 c] 24))
  clear hN hx hy ht hu hB hl IH
  obtain ⟨x0, x1, x2⟩ := B0.out.cells
  go_enter Tryd.func20, Tryd.ntmps20
  go_wp2_with fail
  refine (WS.out _ KA.out U0.out).mono ?_
  rintro e w1 ⟨rfl, u1, k1⟩
  have K1 := Lib.hid (KA.out.trans k1)
  have U1 := Lib.hid u1
  clear u1 k1 x0 x1 x2
  go_wp2_with fail
  go_end0
  exact ⟨rfl, U1.out, K1.out⟩
set_option maxHeartbeats 2000000 in
set_option maxRecDepth 100000 in
theorem write5_of {N : Nat} (IH : WW N) (i : Int) (x : Tr) (A : Option Addr) (c B b : Nat) (l : List UInt8) (w : World) (hN : x.sz ≤ N) (hx : x.shp = true) (ht : IsT w B (.node 5 i [x]) A c) (hu : BU B b l w) (hB : B ≤ w.heap.size) (hl : l.length + 5 * (x.sz + 1) ≤ 100000) :
    Calls Tryd.prog 20 #[.pointer (some ⟨b, 0, none⟩), .agg #[.int .i64 5, .int .i64 i, .slice A 1 c]] w (WrI w B b (l ++ textT (.node 5 i [x]))) := by
  obtain ⟨g, o, Aa, ca, rfl, hg, ha, ta, hc⟩ := kidsY1 ht
  have KA := Lib.hid (KY.al (b := b) hB (.cells #[.int .i64 5, .int .i64 i, .slice (some ⟨g, o, none⟩) 1 c] 24))
  have B0 := Lib.hid (Box3.new w (.int .i64 5) (.int .i64 i) (.slice (some ⟨g, o, none⟩) 1 c))
  have NE := Lib.hid (show w.heap.size ≠ b by have := hu.lt; omega)
  have U0 := Lib.hid (hu.alloc (.cells #[.int .i64 5, .int .i64 i, .slice (some ⟨g, o, none⟩) 1 c] 24))
  have CA := Lib.hid (fun (W : World) (h : KY B b w W) => (ha.keep h.below hg : CelY W g o x Aa ca))
  have TA := Lib.hid (fun (W : World) (h : KY B b w W) => (ta.keep h.below (Nat.le_refl _) : IsT W B x Aa ca))
  have HB := Lib.hid hB
  have IX := Lib.hid (fun (A : Option Addr) (c : Nat) (l : List UInt8) (W : World) => IH x A c B b l W (by omega) hx)
  have L0 := Lib.hid hl
  have TX := Lib.hid (textT_eq (.node 5 i [x]))
  clear ht hu hB hN hx hl ta IH
  obtain ⟨x0, x1, x2⟩ := B0.out.cells
  go_enter Tryd.func20, Tryd.ntmps20
  go_wp2_with fail
  refine (wbyte B b l 33 _ rfl _ U0.out (by have := L0.out; omega) (Nat.le_trans HB.out KA.out.size)).mono ?_
  rintro e w1 ⟨rfl, u1, k1⟩
  have K1 := Lib.hid (KA.out.trans k1)
  have B1 := Lib.hid (k1.box NE.out B0.out)
  have U1 := Lib.hid u1
  clear u1 k1 x0 x1 x2
  obtain ⟨x0, x1, x2⟩ := B1.out.cells
  obtain ⟨a0, a1, a2⟩ := CA.out _ K1.out
  go_wp2_with fail
  refine (IX.out Aa ca (l ++ [33]) _ (TA.out _ K1.out) U1.out (Nat.le_trans HB.out K1.out.size) (by have := L0.out; simp; omega)).mono ?_
  rintro e w4 ⟨rfl, u4, k4⟩
  have K4 := Lib.hid (K1.out.trans k4)
  have U4 := Lib.hid u4
  clear u4 k4 x0 x1 x2 a0 a1 a2
  go_wp2_with fail
  go_end0
  exact ⟨rfl, by rw [TX.out]; simpa [nodeX, Tr.k, Tr.i, Tr.ks] using U4.out, K4.out⟩
set_option maxHeartbeats 2000000 in
set_option maxRecDepth 100000 in
theorem write7_of {N : Nat} (IH : WW N) (i : Int) (i0 : 0 ≤ i) (i1 : i ≤ 99) (x : Tr) (A : Option Addr) (c B b : Nat) (l : List UInt8) (w : World) (hN : x.sz ≤ N) (hx : x.shp = true) (ht : IsT w B (.node 7 i [x]) A c) (hu : BU B b l w) (hB : B ≤ w.heap.size) (hl : l.length + 5 * (x.sz + 1) ≤ 100000) :
    Calls Tryd.prog 20 #[.pointer (some ⟨b, 0, none⟩), .agg #[.int .i64 7, .int .i64 i, .slice A 1 c]] w (WrI w B b (l ++ textT (.node 7 i [x]))) := by
  have KA := Lib.hid (KY.al (b := b) hB (.cells #[.int .i64 7, .int .i64 i, .slice A 1 c] 24))
  have B0 := Lib.hid (Box3.new w (.int .i64 7) (.int .i64 i) (.slice A 1 c))
  have WS := Lib.hid (fun (W : World) (h : KY B b w W) (hu : BU B b l W) => (show Calls Tryd.prog 48 #[.pointer (some ⟨b, 0, none⟩), .int .u8 64, .agg #[.int .i64 7, .int .i64 i, .slice A 1 c]] W (WrI W B b (l ++ textT (.node 7 i [x]))) from by
    rw [textT_eq]
    exact wquant_of IH 7 i i0 i1 x A c B b l 64 64 rfl W hN hx (ht.keep h.below (Nat.le_refl _)) hu (Nat.le_trans hB h.size) hl))
  have U0 := Lib.hid (hu.alloc (.cells #[.int .i64 7, .int .i64 i, .slice A 1 c] 24))
  clear hN hx ht hu hB hl IH i0 i1
  obtain ⟨x0, x1, x2⟩ := B0.out.cells
  go_enter Tryd.func20, Tryd.ntmps20
  go_wp2_with fail
  refine (WS.out _ KA.out U0.out).mono ?_
  rintro e w1 ⟨rfl, u1, k1⟩
  have K1 := Lib.hid (KA.out.trans k1)
  have U1 := Lib.hid u1
  clear u1 k1 x0 x1 x2
  go_wp2_with fail
  go_end0
  exact ⟨rfl, U1.out, K1.out⟩
set_option maxHeartbeats 2000000 in
set_option maxRecDepth 100000 in
theorem write10_of {N : Nat} (IH : WW N) (i : Int) (i0 : 0 ≤ i) (i1 : i ≤ 99) (x : Tr) (A : Option Addr) (c B b : Nat) (l : List UInt8) (w : World) (hN : x.sz ≤ N) (hx : x.shp = true) (ht : IsT w B (.node 10 i [x]) A c) (hu : BU B b l w) (hB : B ≤ w.heap.size) (hl : l.length + 5 * (x.sz + 1) ≤ 100000) :
    Calls Tryd.prog 20 #[.pointer (some ⟨b, 0, none⟩), .agg #[.int .i64 10, .int .i64 i, .slice A 1 c]] w (WrI w B b (l ++ textT (.node 10 i [x]))) := by
  have KA := Lib.hid (KY.al (b := b) hB (.cells #[.int .i64 10, .int .i64 i, .slice A 1 c] 24))
  have B0 := Lib.hid (Box3.new w (.int .i64 10) (.int .i64 i) (.slice A 1 c))
  have WS := Lib.hid (fun (W : World) (h : KY B b w W) (hu : BU B b l W) => (show Calls Tryd.prog 48 #[.pointer (some ⟨b, 0, none⟩), .int .u8 63, .agg #[.int .i64 10, .int .i64 i, .slice A 1 c]] W (WrI W B b (l ++ textT (.node 10 i [x]))) from by
    rw [textT_eq]
    exact wquant_of IH 10 i i0 i1 x A c B b l 63 63 rfl W hN hx (ht.keep h.below (Nat.le_refl _)) hu (Nat.le_trans hB h.size) hl))
  have U0 := Lib.hid (hu.alloc (.cells #[.int .i64 10, .int .i64 i, .slice A 1 c] 24))
  clear hN hx ht hu hB hl IH i0 i1
  obtain ⟨x0, x1, x2⟩ := B0.out.cells
  go_enter Tryd.func20, Tryd.ntmps20
  go_wp2_with fail
  refine (WS.out _ KA.out U0.out).mono ?_
  rintro e w1 ⟨rfl, u1, k1⟩
  have K1 := Lib.hid (KA.out.trans k1)
  have U1 := Lib.hid u1
  clear u1 k1 x0 x1 x2
  go_wp2_with fail
  go_end0
  exact ⟨rfl, U1.out, K1.out⟩
set_option maxHeartbeats 2000000 in
set_option maxRecDepth 100000 in
theorem write6_of {N : Nat} (IH : WW N) (i : Int) (x y : Tr) (A : Option Addr) (c B b : Nat) (l : List UInt8) (w : World) (hN : x.sz + y.sz ≤ N) (hx : x.shp = true) (hy : y.shp = true) (ht : IsT w B (.node 6 i [x, y]) A c) (hu : BU B b l w) (hB : B ≤ w.heap.size) (hl : l.length + 5 * (x.sz + y.sz + 1) ≤ 100000) :
    Calls Tryd.prog 20 #[.pointer (some ⟨b, 0, none⟩), .agg #[.int .i64 6, .int .i64 i, .slice A 2 c]] w (WrI w B b (l ++ textT (.node 6 i [x, y]))) := by
  have KA := Lib.hid (KY.al (b := b) hB (.cells #[.int .i64 6, .int .i64 i, .slice A 2 c] 24))
  have B0 := Lib.hid (Box3.new w (.int .i64 6) (.int .i64 i) (.slice A 2 c))
  have WS := Lib.hid (fun (W : World) (h : KY B b w W) (hu : BU B b l W) => (show Calls Tryd.prog 49 #[.pointer (some ⟨b, 0, none⟩), .string { data := #[32, 62, 32] }, .agg #[.int .i64 6, .int .i64 i, .slice A 2 c]] W (WrI W B b (l ++ textT (.node 6 i [x, y]))) from by
    rw [textT_eq]
    exact wpar_of IH 6 i x y A c B b l [32, 62, 32] _ rfl W hN hx hy (ht.keep h.below (Nat.le_refl _)) hu (Nat.le_trans hB h.size) (by decide) (by omega)))
  have U0 := Lib.hid (hu.alloc (.cells #[.int .i64 6, .int .i64 i, .slice A 2 c] 24))
  clear hN hx hy ht hu hB hl IH
  obtain ⟨x0, x1, x2⟩ := B0.out.cells
  go_enter Tryd.func20, Tryd.ntmps20
  go_wp2_with fail
  refine (WS.out _ KA.out U0.out).mono ?_
  rintro e w1 ⟨rfl, u1, k1⟩
  have K1 := Lib.hid (KA.out.trans k1)
  have U1 := Lib.hid u1
  clear u1 k1 x0 x1 x2
  go_wp2_with fail
  go_end0
  exact ⟨rfl, U1.out, K1.out⟩
set_option maxHeartbeats 2000000 in
set_option maxRecDepth 100000 in
theorem write8_of {N : Nat} (IH : WW N) (i : Int) (x y : Tr) (A : Option Addr) (c B b : Nat) (l : List UInt8) (w : World) (hN : x.sz + y.sz ≤ N) (hx : x.shp = true) (hy : y.shp = true) (ht : IsT w B (.node 8 i [x, y]) A c) (hu : BU B b l w) (hB : B ≤ w.heap.size) (hl : l.length + 5 * (x.sz + y.sz + 1) ≤ 100000) :
    Calls Tryd.prog 20 #[.pointer (some ⟨b, 0, none⟩), .agg #[.int .i64 8, .int .i64 i, .slice A 2 c]] w (WrI w B b (l ++ textT (.node 8 i [x, y]))) := by
  have KA := Lib.hid (KY.al (b := b) hB (.cells #[.int .i64 8, .int .i64 i, .slice A 2 c] 24))
  have B0 := Lib.hid (Box3.new w (.int .i64 8) (.int .i64 i) (.slice A 2 c))
  have WS := Lib.hid (fun (W : World) (h : KY B b w W) (hu : BU B b l W) => (show Calls Tryd.prog 49 #[.pointer (some ⟨b, 0, none⟩), .string { data := #[32, 38, 32] }, .agg #[.int .i64 8, .int .i64 i, .slice A 2 c]] W (WrI W B b (l ++ textT (.node 8 i [x, y]))) from by
    rw [textT_eq]
    exact wpar_of IH 8 i x y A c B b l [32, 38, 32] _ rfl W hN hx hy (ht.keep h.below (Nat.le_refl _)) hu (Nat.le_trans hB h.size) (by decide) (by omega)))
  have U0 := Lib.hid (hu.alloc (.cells #[.int .i64 8, .int .i64 i, .slice A 2 c] 24))
  clear hN hx hy ht hu hB hl IH
  obtain ⟨x0, x1, x2⟩ := B0.out.cells
  go_enter Tryd.func20, Tryd.ntmps20
  go_wp2_with fail
  refine (WS.out _ KA.out U0.out).mono ?_
  rintro e w1 ⟨rfl, u1, k1⟩
  have K1 := Lib.hid (KA.out.trans k1)
  have U1 := Lib.hid u1
  clear u1 k1 x0 x1 x2
  go_wp2_with fail
  go_end0
  exact ⟨rfl, U1.out, K1.out⟩
set_option maxHeartbeats 2000000 in
set_option maxRecDepth 100000 in
theorem write9_of {N : Nat} (IH : WW N) (i : Int) (x y : Tr) (A : Option Addr) (c B b : Nat) (l : List UInt8) (w : World) (hN : x.sz + y.sz ≤ N) (hx : x.shp = true) (hy : y.shp = true) (ht : IsT w B (.node 9 i [x, y]) A c) (hu : BU B b l w) (hB : B ≤ w.heap.size) (hl : l.length + 5 * (x.sz + y.sz + 1) ≤ 100000) :
    Calls Tryd.prog 20 #[.pointer (some ⟨b, 0, none⟩), .agg #[.int .i64 9, .int .i64 i, .slice A 2 c]] w (WrI w B b (l ++ textT (.node 9 i [x, y]))) := by
  have KA := Lib.hid (KY.al (b := b) hB (.cells #[.int .i64 9, .int .i64 i, .slice A 2 c] 24))
  have B0 := Lib.hid (Box3.new w (.int .i64 9) (.int .i64 i) (.slice A 2 c))
  have WS := Lib.hid (fun (W : World) (h : KY B b w W) (hu : BU B b l W) => (show Calls Tryd.prog 49 #[.pointer (some ⟨b, 0, none⟩), .string { data := #[32, 124, 32] }, .agg #[.int .i64 9, .int .i64 i, .slice A 2 c]] W (WrI W B b (l ++ textT (.node 9 i [x, y]))) from by
    rw [textT_eq]
    exact wpar_of IH 9 i x y A c B b l [32, 124, 32] _ rfl W hN hx hy (ht.keep h.below (Nat.le_refl _)) hu (Nat.le_trans hB h.size) (by decide) (by omega)))
  have U0 := Lib.hid (hu.alloc (.cells #[.int .i64 9, .int .i64 i, .slice A 2 c] 24))
  clear hN hx hy ht hu hB hl IH
  obtain ⟨x0, x1, x2⟩ := B0.out.cells
  go_enter Tryd.func20, Tryd.ntmps20
  go_wp2_with fail
  refine (WS.out _ KA.out U0.out).mono ?_
  rintro e w1 ⟨rfl, u1, k1⟩
  have K1 := Lib.hid (KA.out.trans k1)
  have U1 := Lib.hid u1
  clear u1 k1 x0 x1 x2
  go_wp2_with fail
  go_end0
  exact ⟨rfl, U1.out, K1.out⟩
theorem write_all : ∀ N, WW N
  | 0 => fun t A c B b l w hN => by have := sz_pos t; omega
  | N + 1 => by
    have IH := write_all N
    intro t A c B b l w hN hs ht hu hB hl
    obtain ⟨k, i, ks⟩ := t
    obtain ⟨i0, i1, hc⟩ := shp_node hs
    have hk := fun q hq => shp_kidY hs (q := q) hq
    have hz := sz_eq (.node k i ks)
    simp only [Tr.k, Tr.i, Tr.ks] at i0 i1 hc hk hz
    show Calls Tryd.prog 20 #[.pointer (some ⟨b, 0, none⟩), .agg #[.int .i64 k, .int .i64 i, .slice A ks.length c]] w (WrI w B b (l ++ textT (.node k i ks)))
    rcases hc with ⟨rfl, rfl⟩ | ⟨rfl | rfl, _⟩ | ⟨⟨x, rfl⟩, rfl | rfl | rfl⟩ | ⟨⟨x, y, rfl⟩, rfl | rfl | rfl | rfl⟩
    · exact write1_of IH i [] A c B b l w hN hs ht hu hB hl
    · exact write2_of IH i ks A c B b l w hN hs ht hu hB hl
    · exact write3_of IH i ks A c B b l w hN hs ht hu hB hl
    all_goals simp only [szL] at hz
    · exact write5_of IH i x A c B b l w (by omega) (hk x (by simp)) ht hu hB (by omega)
    · exact write7_of IH i i0 i1 x A c B b l w (by omega) (hk x (by simp)) ht hu hB (by omega)
    · exact write10_of IH i i0 i1 x A c B b l w (by omega) (hk x (by simp)) ht hu hB (by omega)
    · exact write4_of IH i x y A c B b l w (by omega) (hk x (by simp)) (hk y (by simp)) ht hu hB (by omega)
    · exact write6_of IH i x y A c B b l w (by omega) (hk x (by simp)) (hk y (by simp)) ht hu hB (by omega)
    · exact write8_of IH i x y A c B b l w (by omega) (hk x (by simp)) (hk y (by simp)) ht hu hB (by omega)
    · exact write9_of IH i x y A c B b l w (by omega) (hk x (by simp)) (hk y (by simp)) ht hu hB (by omega)
end Go.Proofs.YtgnfbhemkombaaaDoor
