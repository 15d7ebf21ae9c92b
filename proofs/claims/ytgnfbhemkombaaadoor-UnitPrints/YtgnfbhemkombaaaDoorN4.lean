/- Print of the document's layer 9. -/
import Derived.Test.YtgnfbhemkombaaaDoorN3
namespace Go.Proofs.YtgnfbhemkombaaaDoor
open Go.RowKit Go.Sort
set_option linter.unusedVariables false
set_option linter.unusedSimpArgs false
theorem linesT_app (a b : List Stp) : ∀ i, linesT i (a ++ b) = linesT i a ++ linesT (i + a.length) b := by
  induction a with
  | nil => intro i; simp [linesT]
  | cons x l ih => intro i; simp only [List.cons_append, linesT, ih, List.length_cons, List.append_assoc]; rw [show i + 1 + l.length = i + (l.length + 1) by omega]
theorem linesT_take {l : List Stp} {k : Nat} (h : k < l.length) : linesT 0 (l.take (k + 1)) = linesT 0 (l.take k) ++ lineT k l[k] := by
  rw [List.take_succ_eq_append_getElem h, linesT_snoc, List.length_take, Nat.zero_add, Nat.min_eq_left (by omega)]
theorem linesT_le (l : List Stp) (k : Nat) : (linesT 0 (l.take k)).length ≤ (linesT 0 l).length := by
  have := linesT_app (l.take k) (l.drop k) 0
  rw [List.take_append_drop] at this
  rw [this, List.length_append]
  omega
theorem namesT_take {l : List ByteArray} {k : Nat} (h : k < l.length) : namesT (l.take (k + 1)) = namesT (l.take k) ++ ([32] ++ l[k].data.toList) := by
  rw [List.take_succ_eq_append_getElem h, namesT_snoc]
/-- what Print answers -/
def printU (u : Unt) : List UInt8 × Nat := if rightU u = 0 then (if 20000 < (unitT u).length then ([], 2) else (unitT u, 0)) else ([], rightU u)
/-- a text's size -/
theorem mk_size (l : List UInt8) : (⟨l.toArray⟩ : ByteArray).size = l.length := by show l.toArray.size = _; simp
theorem names_few {u : Unt} (h : UnitOk u) (k : Nat) : (namesT (u.cites.take k)).length ≤ 200 := by
  have h1 := names_len (u.cites.take k) (fun s hs => h.names s (List.mem_of_mem_take hs))
  have h2 := h.few
  rw [List.length_take] at h1
  omega
theorem lines_few {u : Unt} (h : UnitOk u) (k : Nat) : (linesT 0 (u.steps.take k)).length ≤ 100000 := by
  have h1 := lines_len (u.steps.take k) 0 (by rw [List.length_take]; have := h.steps; omega) (fun s hs => h.step s (List.mem_of_mem_take hs))
  have h2 := h.steps
  rw [List.length_take] at h1
  omega
/-- the strings of a line, one behind the other -/
theorem lineS (pre : List UInt8) (i : Nat) (s : Stp) (hs : StepOk s) (hi : i < 1000) (hp : pre.length ≤ 200000) {S sn st sw : ByteArray} (h : S = ⟨pre.toArray⟩) (hn : sn = ⟨(itB ((i : Int) + 1)).toArray⟩) (ht : st = ⟨(textT s.says).toArray⟩) (hw : sw = ⟨(whyT s.why s.a s.b s.cite).toArray⟩) :
    ∃ s1 s2 s3 s4 s5 fin : ByteArray, fin = ⟨(pre ++ lineT i s).toArray⟩ ∧ (∀ W : World, (Op.stringOp .add S sn).run Tryd.prog W = .ok (.string s1) W) ∧ (∀ W : World, (Op.stringOp .add s1 { data := #[32] }).run Tryd.prog W = .ok (.string s2) W) ∧
      (∀ W : World, (Op.stringOp .add s2 st).run Tryd.prog W = .ok (.string s3) W) ∧ (∀ W : World, (Op.stringOp .add s3 { data := #[32, 58, 32] }).run Tryd.prog W = .ok (.string s4) W) ∧ (∀ W : World, (Op.stringOp .add s4 sw).run Tryd.prog W = .ok (.string s5) W) ∧ (∀ W : World, (Op.stringOp .add s5 { data := #[10] }).run Tryd.prog W = .ok (.string fin) W) := by
  have l1 : (itB ((i : Int) + 1)).length ≤ 21 := itB_len (by omega) (by omega)
  have l2 := text_short hs.right hs.small
  have l3 := why_len hs
  refine ⟨⟨(pre ++ itB ((i : Int) + 1)).toArray⟩, ⟨(pre ++ itB ((i : Int) + 1) ++ [32]).toArray⟩, ⟨(pre ++ itB ((i : Int) + 1) ++ [32] ++ textT s.says).toArray⟩, ⟨(pre ++ itB ((i : Int) + 1) ++ [32] ++ textT s.says ++ [32, 58, 32]).toArray⟩, ⟨(pre ++ itB ((i : Int) + 1) ++ [32] ++ textT s.says ++ [32, 58, 32] ++ whyT s.why s.a s.b s.cite).toArray⟩, ⟨(pre ++ lineT i s).toArray⟩, rfl, ?_, ?_, ?_, ?_, ?_, ?_⟩
  · intro W; exact addS h hn rfl rfl (by omega) W
  · intro W; exact addS (y := [32]) rfl rfl rfl rfl (by simp only [List.length_append, List.length_cons, List.length_nil]; omega) W
  · intro W; exact addS rfl ht rfl rfl (by simp only [List.length_append, List.length_cons, List.length_nil]; omega) W
  · intro W; exact addS (y := [32, 58, 32]) rfl rfl rfl rfl (by simp only [List.length_append, List.length_cons, List.length_nil]; omega) W
  · intro W; exact addS rfl hw rfl rfl (by simp only [List.length_append, List.length_cons, List.length_nil]; omega) W
  · intro W
    refine addS (y := [10]) rfl rfl rfl ?_ (by simp only [List.length_append, List.length_cons, List.length_nil]; omega) W
    unfold lineT
    simp only [List.append_assoc]
set_option maxHeartbeats 8000000 in
set_option maxRecDepth 100000 in
theorem rprint_right (u : Unt) (N : Option Addr) (nc : Nat) (A : Option Addr) (c : Nat) (S : Option Addr) (sc : Nat) (w : World) (hr : rightU u = 0) (hT : TB w) (hn : IsNs w w.heap.size u.cites N nc) (ht : IsT w w.heap.size u.states A c) (hs : IsSs w w.heap.size u.steps S sc) :
    Calls Tryd.prog 18 #[.agg #[.slice N u.cites.length nc, .int .i64 u.states.k, .int .i64 u.states.i, .slice A u.states.ks.length c, .slice S u.steps.length sc]] w
      fun e w' => e = .returned (.tuple #[.string ⟨(printU u).1.toArray⟩, .int .i64 ((printU u).2 : Nat)]) ∧ Below w.heap.size w w' := by
  have U0 := Lib.hid (OneU.new hn ht hs)
  have OKU := Lib.hid (unit_ok hr)
  have TT := Lib.hid (fun (W : World) (h : Below w.heap.size w W) => hT.keep h)
  have PU := Lib.hid (show printU u = if 20000 < (unitT u).length then ([], 2) else (unitT u, 0) from if_pos hr)
  have RR := Lib.hid (fun (W : World) (h : OneU w W u N nc A c S sc) => (show Calls Tryd.prog 40 #[.agg #[.slice N u.cites.length nc, .int .i64 u.states.k, .int .i64 u.states.i, .slice A u.states.ks.length c, .slice S u.steps.length sc]] W fun e w' => e = .returned (.int .i64 0) ∧ Below W.heap.size W w' from by
    have := rright9_any u N nc A c S sc W h.names h.tree h.steps
    rw [hr] at this
    exact this))
  have hcap := hs.cap
  have hle := hs.le
  have ncap := hn.cap
  have nle := hn.le
  clear hn ht hs hT hr
  obtain ⟨r1, hr1⟩ : ∃ r1, r1 = (printU u).1 := ⟨_, rfl⟩
  obtain ⟨r2, hr2⟩ : ∃ r2, r2 = (printU u).2 := ⟨_, rfl⟩
  rw [← hr1, ← hr2]
  have FIN := Lib.hid (show (20000 < (unitT u).length → r1 = [] ∧ r2 = 2) ∧ (¬ 20000 < (unitT u).length → r1 = unitT u ∧ r2 = 0) by
    refine ⟨fun h => ?_, fun h => ?_⟩
    · rw [hr1, hr2, PU.out, if_pos h]; exact ⟨rfl, rfl⟩
    · rw [hr1, hr2, PU.out, if_neg h]; exact ⟨rfl, rfl⟩)
  clear hr1 hr2 PU
  obtain ⟨y0, y1, y2, y3, y4⟩ := U0.out.box.cells
  go_enter Tryd.func18, Tryd.ntmps18
  go_wp2_with fail
  refine (RR.out _ U0.out).mono ?_
  rintro e w1 ⟨rfl, hb1⟩
  have U1 := Lib.hid (U0.out.keep hb1)
  clear hb1 U0 y0 y1 y2 y3 y4
  obtain ⟨y0, y1, y2, y3, y4⟩ := U1.out.box.cells
  go_wp2_with fail
  go_loopw [5, 18] (fun s i wr => ∃ (k : Nat) (X : ByteArray), k ≤ u.cites.length ∧ i = .int .i64 (k : Int) ∧ s = .string X ∧ X = ⟨([99, 105, 116, 101, 115] ++ namesT (u.cites.take k)).toArray⟩ ∧ OneU w wr u N nc A c S sc) (fun _ i _ => u.cites.length - (intOf i).toNat)
  case atStart => exact ⟨0, _, Nat.zero_le _, rfl, rfl, rfl, U1.out⟩
  case round =>
    obtain ⟨k, X, hk, rfl, rfl, hX, hU⟩ := hrel
    have HU := Lib.hid hU
    have HX := Lib.hid hX
    clear hU hX y0 y1 y2 y3 y4
    obtain ⟨y0, y1, y2, y3, y4⟩ := HU.out.box.cells
    have lk := names_few OKU.out k
    by_cases hlt : k < u.cites.length
    · obtain ⟨b, o, rfl, hb, hc⟩ := HU.out.names.cell k hlt
      have hsz := OKU.out.names _ (List.getElem_mem hlt)
      have ht := namesT_take hlt
      obtain ⟨nm, hnm⟩ : ∃ nm, nm = u.cites[k] := ⟨_, rfl⟩
      rw [← hnm] at hc hsz ht
      obtain ⟨X1, hX1⟩ : ∃ X1 : ByteArray, X1 = ⟨(([99, 105, 116, 101, 115] ++ namesT (u.cites.take k)) ++ [32]).toArray⟩ := ⟨_, rfl⟩
      obtain ⟨X2, hX2⟩ : ∃ X2 : ByteArray, X2 = ⟨([99, 105, 116, 101, 115] ++ namesT (u.cites.take (k + 1))).toArray⟩ := ⟨_, rfl⟩
      have a1 : ∀ W : World, (Op.stringOp .add X { data := #[32] }).run Tryd.prog W = .ok (.string X1) W := fun W => addS (y := [32]) HX.out rfl hX1 rfl (by simp only [List.length_append, List.length_cons, List.length_nil]; omega) W
      have a2 : ∀ W : World, (Op.stringOp .add X1 nm).run Tryd.prog W = .ok (.string X2) W := fun W => addS (x := [99, 105, 116, 101, 115] ++ namesT (u.cites.take k) ++ [32]) (y := nm.data.toList) hX1 (bytes_eta nm) hX2 (by rw [ht]; simp) (by have h1 : nm.data.toList.length ≤ 12 := (by rw [Array.length_toList]; exact hsz); have h2 : ([99, 105, 116, 101, 115] ++ namesT (u.cites.take k) ++ [32] : List UInt8).length = 6 + (namesT (u.cites.take k)).length := (by simp; omega); omega) W
      have HX2 := Lib.hid hX2
      clear ht hnm hX1 hX2 hsz lk
      go_wp2_with fail
      go_roundw
      case rel => exact ⟨k + 1, X2, by omega, by go_num, rfl, HX2.out, HU.out⟩
      case measure => simp [intOf]; omega
    · obtain rfl : k = u.cites.length := by omega
      have hX : X = ⟨([99, 105, 116, 101, 115] ++ namesT u.cites).toArray⟩ := by rw [HX.out, List.take_length]
      rw [List.take_length] at lk
      have ls := text_short OKU.out.right OKU.out.small
      have hsp := right_shpY OKU.out.right
      obtain ⟨st, hst⟩ : ∃ st : ByteArray, st = ⟨(textT u.states).toArray⟩ := ⟨_, rfl⟩
      obtain ⟨X1, hX1⟩ : ∃ X1 : ByteArray, X1 = ⟨([99, 105, 116, 101, 115] ++ namesT u.cites ++ [10, 115, 116, 97, 116, 101, 115, 32]).toArray⟩ := ⟨_, rfl⟩
      obtain ⟨X2, hX2⟩ : ∃ X2 : ByteArray, X2 = ⟨([99, 105, 116, 101, 115] ++ namesT u.cites ++ [10, 115, 116, 97, 116, 101, 115, 32] ++ textT u.states).toArray⟩ := ⟨_, rfl⟩
      obtain ⟨X3, hX3⟩ : ∃ X3 : ByteArray, X3 = ⟨(headT u).toArray⟩ := ⟨_, rfl⟩
      have a1 : ∀ W : World, (Op.stringOp .add X { data := #[10, 115, 116, 97, 116, 101, 115, 32] }).run Tryd.prog W = .ok (.string X1) W := fun W => addS (y := [10, 115, 116, 97, 116, 101, 115, 32]) hX rfl hX1 rfl (by simp only [List.length_append, List.length_cons, List.length_nil]; omega) W
      have a2 : ∀ W : World, (Op.stringOp .add X1 st).run Tryd.prog W = .ok (.string X2) W := fun W => addS hX1 hst hX2 rfl (by simp only [List.length_append, List.length_cons, List.length_nil]; omega) W
      have a3 : ∀ W : World, (Op.stringOp .add X2 { data := #[10] }).run Tryd.prog W = .ok (.string X3) W := fun W => addS (y := [10]) hX2 rfl hX3 (by unfold headT; simp only [List.append_assoc]) (by simp only [List.length_append, List.length_cons, List.length_nil]; omega) W
      have TX := Lib.hid (fun (W : World) (h : IsT W W.heap.size u.states A c) => (show Calls Tryd.prog 22 #[.agg #[.int .i64 u.states.k, .int .i64 u.states.i, .slice A u.states.ks.length c]] W fun e w' => e = .returned (.string st) ∧ Below W.heap.size W w' from hst ▸ text_all _ u.states A c W (Nat.le_refl _) hsp.1 hsp.2.1 h))
      have HX3 := Lib.hid hX3
      have HL := Lib.hid (head_len OKU.out)
      clear hX lk ls hsp hst hX1 hX2 hX3 HX hlt hk
      go_wp2_with fail
      refine (TX.out _ (by exact HU.out.tree)).mono ?_
      rintro e w2 ⟨rfl, hb2⟩
      have U2 := Lib.hid (HU.out.keep hb2)
      clear hb2 HU y0 y1 y2 y3 y4 TX
      obtain ⟨y0, y1, y2, y3, y4⟩ := U2.out.box.cells
      go_wp2_with fail
      go_loopw [5, 37] (fun s i wr => ∃ (k : Nat) (Y : ByteArray), k ≤ u.steps.length ∧ i = .int .i64 (k : Int) ∧ s = .string Y ∧ Y = ⟨(headT u ++ linesT 0 (u.steps.take k)).toArray⟩ ∧ OneU w wr u N nc A c S sc) (fun _ i _ => u.steps.length - (intOf i).toNat)
      case atStart => exact ⟨0, _, Nat.zero_le _, rfl, rfl, by rw [HX3.out, List.take_zero]; simp [linesT], U2.out⟩
      case round =>
        obtain ⟨wo, rfl⟩ : ∃ wo : World, wo = wr := ⟨_, rfl⟩
        obtain ⟨k, Y, hk, rfl, rfl, hY, hU⟩ := hrel
        have HU := Lib.hid hU
        have HY := Lib.hid hY
        clear hU hY y0 y1 y2 y3 y4 a1 a2 a3
        by_cases hlt : k < u.steps.length
        · obtain ⟨b, o, A', c', rfl, hb, k0, k1, k2, k3, k4, k5, k6, hq, hTr⟩ := HU.out.steps.at_ k hlt
          have hst := OKU.out.step _ (List.getElem_mem hlt)
          have htk := linesT_take hlt
          obtain ⟨s, hs⟩ : ∃ s, s = u.steps[k] := ⟨_, rfl⟩
          rw [← hs] at k0 k1 k2 k3 k4 k5 k6 hTr hst htk
          have hkk : k < 1000 := by have := OKU.out.steps; omega
          have lf := lines_few OKU.out k
          have lh := HL.out
          have le' := linesT_le u.steps (k + 1)
          obtain ⟨sn, hsn⟩ : ∃ sn : ByteArray, sn = ⟨(itB ((k : Int) + 1)).toArray⟩ := ⟨_, rfl⟩
          obtain ⟨st, hst'⟩ : ∃ st : ByteArray, st = ⟨(textT s.says).toArray⟩ := ⟨_, rfl⟩
          obtain ⟨sw, hsw⟩ : ∃ sw : ByteArray, sw = ⟨(whyT s.why s.a s.b s.cite).toArray⟩ := ⟨_, rfl⟩
          obtain ⟨s1, s2, s3, s4, s5, fin, hfin, a1, a2, a3, a4, a5, a6⟩ := lineS (headT u ++ linesT 0 (u.steps.take k)) k s hst hkk (by rw [List.length_append]; omega) HY.out hsn hst' hsw
          have HF := Lib.hid (show fin = ⟨(headT u ++ linesT 0 (u.steps.take (k + 1))).toArray⟩ by rw [hfin, htk, List.append_assoc])
          have hfs : fin.size = (headT u ++ linesT 0 (u.steps.take (k + 1))).length := by rw [HF.out, mk_size]
          have BIG := Lib.hid (show 20000 < fin.size → 20000 < (unitT u).length by
            intro h
            rw [hfs] at h
            unfold unitT
            rw [List.length_append] at h ⊢
            omega)
          have hsp := right_shpY hst.right
          have HS := Lib.hid hst
          have HTr := Lib.hid hTr
          have HBo := Lib.hid HU.out.below
          obtain ⟨w1, hw1⟩ : ∃ w1, w1 = wo.alloc (.cells #[.int .i64 s.says.k, .int .i64 s.says.i, .slice A' s.says.ks.length c', .int .i64 s.why, .int .i64 s.a, .int .i64 s.b, .string s.cite] 71) := ⟨_, rfl⟩
          have B1 := Lib.hid (show SY wo w1 s.says.k s.says.i A' s.says.ks.length c' s.why s.a s.b s.cite from hw1 ▸ SY.start wo s.says.k s.says.i A' s.says.ks.length c' s.why s.a s.b s.cite)
          have CA := Lib.hid (fun d os => Calls.regrown_of (d := d) (os := os) (show Calls Tryd.prog 41 #[.int .i64 ((k : Int) + 1)] (grow (redrawn w1 d) os) fun e w' => e = .returned (.string sn) ∧ Below (grow (redrawn w1 d) os).heap.size (grow (redrawn w1 d) os) w' from
            hsn ▸ itoa_any ((k : Int) + 1) (by omega) (by omega) _ (TT.out _ (HBo.out.trans ((B1.out.below.trans ((below_regrown w1 d os).mono B1.out.below.size)).mono HBo.out.size)))))
          have CB := Lib.hid (fun d os => Calls.regrown_of (d := d) (os := os) (show Calls Tryd.prog 22 #[.agg #[.int .i64 s.says.k, .int .i64 s.says.i, .slice A' s.says.ks.length c']] (grow (redrawn w1 d) os) fun e w' => e = .returned (.string st) ∧ Below (grow (redrawn w1 d) os).heap.size (grow (redrawn w1 d) os) w' from
            hst' ▸ text_all _ s.says A' c' _ (Nat.le_refl _) hsp.1 hsp.2.1 (HTr.out.keep (B1.out.below.trans ((below_regrown w1 d os).mono B1.out.below.size)) (B1.out.below.trans ((below_regrown w1 d os).mono B1.out.below.size)).size)))
          have CC := Lib.hid (fun d os => Calls.regrown_of (d := d) (os := os) (show Calls Tryd.prog 42 #[.agg #[.int .i64 s.says.k, .int .i64 s.says.i, .slice A' s.says.ks.length c', .int .i64 s.why, .int .i64 s.a, .int .i64 s.b, .string s.cite]] (grow (redrawn w1 d) os) fun e w' => e = .returned (.string sw) ∧ Below (grow (redrawn w1 d) os).heap.size (grow (redrawn w1 d) os) w' from
            hsw ▸ rwhy_any s.says.k s.says.i A' s.says.ks.length c' s.why s.a s.b s.cite _ HS.out.a0 HS.out.a1 HS.out.b0 HS.out.b1 HS.out.cite (TT.out _ (HBo.out.trans ((B1.out.below.trans ((below_regrown w1 d os).mono B1.out.below.size)).mono HBo.out.size)))))
          have z0 := cell_regrown B1.out.box.cells.1
          have z1 := cell_regrown B1.out.box.cells.2.1
          have z2 := cell_regrown B1.out.box.cells.2.2.1
          have z3 := cell_regrown B1.out.box.cells.2.2.2.1
          have z4 := cell_regrown B1.out.box.cells.2.2.2.2.1
          have z5 := cell_regrown B1.out.box.cells.2.2.2.2.2.1
          have z6 := cell_regrown B1.out.box.cells.2.2.2.2.2.2
          clear hs hst htk lf lh le' hsn hst' hsw hfin hfs hTr hq hsp
          go_wp2_with fail
          rw [← hw1]
          clear hw1
          refine wp_region_quiet_below (by kernel_rfl) (by kernel_rfl) ?_
          repeat (go_big_quiet_step (first | exact CA.out _ _ | exact CB.out _ _ | exact CC.out _ _))
          refine wpQuiet_nil ?_
          intro w5 hw'
          obtain ⟨⟨dq, osq⟩, hw''⟩ := hw'
          have hb5 : Below wo.heap.size wo w5 := B1.out.below.trans ((by rw [hw'']; exact below_regrown w1 dq osq : Below w1.heap.size w1 w5).mono B1.out.below.size)
          have U5 := Lib.hid (HU.out.keep hb5)
          clear hb5 hw'' z0 z1 z2 z3 z4 z5 z6 CA CB CC k0 k1 k2 k3 k4 k5 k6
          by_cases hbig : 20000 < fin.size
          · have R := Lib.hid (FIN.out.1 (BIG.out hbig))
            have e1 : (20000 : Int) < (fin.size : Int) := by omega
            clear hbig
            go_wp2_with fail
            go_ret2
            exact ⟨by rw [R.out.1, R.out.2]; rfl, U5.out.below⟩
          · have e1 : ¬ (20000 : Int) < (fin.size : Int) := by omega
            clear hbig
            go_wp2_with fail
            go_roundw
            case rel => exact ⟨k + 1, fin, by omega, by go_num, rfl, HF.out, U5.out⟩
            case measure => simp [intOf]; omega
        · obtain rfl : k = u.steps.length := by omega
          have hY : Y = ⟨(unitT u).toArray⟩ := by rw [HY.out, List.take_length]; rfl
          have hsz : Y.size = (unitT u).length := by rw [hY, mk_size]
          by_cases hbig : 20000 < (unitT u).length
          · have R := Lib.hid (FIN.out.1 hbig)
            have e1 : (20000 : Int) < (Y.size : Int) := by omega
            clear hbig hsz hY
            go_wp2_with fail
            go_ret2
            exact ⟨by rw [R.out.1, R.out.2]; rfl, HU.out.below⟩
          · have R := Lib.hid (FIN.out.2 hbig)
            have e1 : ¬ (20000 : Int) < (Y.size : Int) := by omega
            have HY' := Lib.hid hY
            clear hbig hsz hY
            go_wp2_with fail
            go_ret2
            exact ⟨by rw [R.out.1, R.out.2, ← HY'.out]; rfl, HU.out.below⟩
end Go.Proofs.YtgnfbhemkombaaaDoor
