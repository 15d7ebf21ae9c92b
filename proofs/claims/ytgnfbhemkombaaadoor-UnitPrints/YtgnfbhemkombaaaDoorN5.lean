/- written of package unit. -/
import Derived.Test.YtgnfbhemkombaaaDoorN4
namespace Go.Proofs.YtgnfbhemkombaaaDoor
open Go.RowKit Go.Sort
set_option linter.unusedVariables false
set_option linter.unusedSimpArgs false
theorem BU.below {B b : Nat} {l : List UInt8} {w w' : World} (h : BU B b l w) (hb : Below w.heap.size w w') : BU B b l w' := by
  have key : ∀ p, Lib.BuilderAtF 51 5 B b p (Lib.byteCells l) w → Lib.BuilderAtF 51 5 B b p (Lib.byteCells l) w' := by
    rintro p ⟨hB, v, hbk, hown, hne⟩
    refine ⟨hB, v, (hb.block b (Array.getElem?_eq_some_iff.1 hbk).1).trans hbk, ⟨hown.1, ?_⟩, hne⟩
    rcases hown.2 with h0 | ⟨g, cap, cur, fz, hv, hB2, hg, rest⟩
    · exact .inl h0
    · exact .inr ⟨g, cap, cur, fz, hv, hB2, (hb.block g (Array.getElem?_eq_some_iff.1 hg).1).trans hg, rest⟩
  exact Or.elim h (fun x => .inl (key _ x)) (fun x => .inr (key _ x))
theorem KY.boxS {B b : Nat} {w w' : World} (h : KY B b w w') {g : Nat} {x0 x1 x2 x3 x4 x5 x6 : Value} (hg : g ≠ b) (hb : BoxS w g x0 x1 x2 x3 x4 x5 x6) : BoxS w' g x0 x1 x2 x3 x4 x5 x6 :=
  ⟨h.oth g _ hb.blk (fun e => hg (Option.some.inj e)) (fun c fz e => by injection e with _ e2; exact absurd e2 (by decide))⟩
/-- a builder, and all that was there before it -/
structure BW (w1 W : World) (l : List UInt8) : Prop where
  bu : BU w1.heap.size w1.heap.size l W
  low : Below w1.heap.size w1 W
theorem BW.keep {w1 W W' : World} {l : List UInt8} (h : BW w1 W l) (hb : Below W.heap.size W W') : BW w1 W' l := ⟨h.bu.below hb, h.low.trans (hb.mono h.low.size)⟩
theorem BW.wrote {w1 W W' : World} {l l' : List UInt8} (h : BW w1 W l) (hu : BU w1.heap.size w1.heap.size l' W') (hk : KY w1.heap.size w1.heap.size W W') : BW w1 W' l' := ⟨hu, h.low.trans hk.below⟩
/-- the same, with the box of a step -/
structure BS (w1 wo W : World) (l : List UInt8) (s : Stp) (A : Option Addr) (c : Nat) : Prop where
  bw : BW w1 W l
  box : BoxS W wo.heap.size (.int .i64 s.says.k) (.int .i64 s.says.i) (.slice A s.says.ks.length c) (.int .i64 s.why) (.int .i64 s.a) (.int .i64 s.b) (.string s.cite)
  tree : IsT W W.heap.size s.says A c
theorem BS.keep {w1 wo W W' : World} {l : List UInt8} {s : Stp} {A : Option Addr} {c : Nat} (h : BS w1 wo W l s A c) (hb : Below W.heap.size W W') : BS w1 wo W' l s A c := ⟨h.bw.keep hb, h.box.keep hb h.box.lt, h.tree.keep hb hb.size⟩
theorem BS.start {w1 wo : World} {l : List UInt8} (h : BW w1 wo l) (s : Stp) (A : Option Addr) (c : Nat) (ht : IsT wo wo.heap.size s.says A c) : BS w1 wo (wo.alloc (.cells #[.int .i64 s.says.k, .int .i64 s.says.i, .slice A s.says.ks.length c, .int .i64 s.why, .int .i64 s.a, .int .i64 s.b, .string s.cite] 71)) l s A c :=
  ⟨h.keep ((Below.refl _ _).alloc (Nat.le_refl _) _), BoxS.new _ _ _ _ _ _ _ _, ht.keep ((Below.refl _ _).alloc (Nat.le_refl _) _) ((Below.refl _ _).alloc (Nat.le_refl _) _ : Below wo.heap.size wo _).size⟩
theorem BS.drew {w1 wo W : World} {l : List UInt8} {s : Stp} {A : Option Addr} {c : Nat} (h : BS w1 wo W l s A c) : BS w1 wo W.drew l s A c := h.keep (Below.refl _ _).drew
/-- the strings of a line, without what stands ahead of it -/
theorem lineW (i : Nat) (s : Stp) (hs : StepOk s) (hi : i < 1000) {sn st sw : ByteArray} (hn : sn = ⟨(itB ((i : Int) + 1)).toArray⟩) (ht : st = ⟨(textT s.says).toArray⟩) (hw : sw = ⟨(whyT s.why s.a s.b s.cite).toArray⟩) :
    ∃ s2 s3 s4 s5 fin : ByteArray, fin = ⟨(lineT i s).toArray⟩ ∧ (∀ W : World, (Op.stringOp .add sn { data := #[32] }).run Tryd.prog W = .ok (.string s2) W) ∧
      (∀ W : World, (Op.stringOp .add s2 st).run Tryd.prog W = .ok (.string s3) W) ∧ (∀ W : World, (Op.stringOp .add s3 { data := #[32, 58, 32] }).run Tryd.prog W = .ok (.string s4) W) ∧ (∀ W : World, (Op.stringOp .add s4 sw).run Tryd.prog W = .ok (.string s5) W) ∧ (∀ W : World, (Op.stringOp .add s5 { data := #[10] }).run Tryd.prog W = .ok (.string fin) W) := by
  have l1 : (itB ((i : Int) + 1)).length ≤ 21 := itB_len (by omega) (by omega)
  have l2 := text_short hs.right hs.small
  have l3 := why_len hs
  refine ⟨⟨(itB ((i : Int) + 1) ++ [32]).toArray⟩, ⟨(itB ((i : Int) + 1) ++ [32] ++ textT s.says).toArray⟩, ⟨(itB ((i : Int) + 1) ++ [32] ++ textT s.says ++ [32, 58, 32]).toArray⟩, ⟨(itB ((i : Int) + 1) ++ [32] ++ textT s.says ++ [32, 58, 32] ++ whyT s.why s.a s.b s.cite).toArray⟩, ⟨(lineT i s).toArray⟩, rfl, ?_, ?_, ?_, ?_, ?_⟩
  · intro W; exact addS (y := [32]) hn rfl rfl rfl (by simp only [List.length_append, List.length_cons, List.length_nil]; omega) W
  · intro W; exact addS rfl ht rfl rfl (by simp only [List.length_append, List.length_cons, List.length_nil]; omega) W
  · intro W; exact addS (y := [32, 58, 32]) rfl rfl rfl rfl (by simp only [List.length_append, List.length_cons, List.length_nil]; omega) W
  · intro W; exact addS rfl hw rfl rfl (by simp only [List.length_append, List.length_cons, List.length_nil]; omega) W
  · intro W
    exact addS (y := [10]) rfl rfl rfl rfl (by simp only [List.length_append, List.length_cons, List.length_nil]; omega) W
set_option maxHeartbeats 8000000 in
set_option maxRecDepth 100000 in
theorem written_any (u : Unt) (N : Option Addr) (nc : Nat) (A : Option Addr) (c : Nat) (S : Option Addr) (sc : Nat) (w : World) (hr : rightU u = 0) (hT : TB w) (hn : IsNs w w.heap.size u.cites N nc) (ht : IsT w w.heap.size u.states A c) (hs : IsSs w w.heap.size u.steps S sc) :
    Calls Tryd.prog 39 #[.agg #[.slice N u.cites.length nc, .int .i64 u.states.k, .int .i64 u.states.i, .slice A u.states.ks.length c, .slice S u.steps.length sc]] w
      fun e w' => e = .returned (.string ⟨(unitT u).toArray⟩) ∧ Below w.heap.size w w' := by
  have hcap := hs.cap
  have hle := hs.le
  have ncap := hn.cap
  have nle := hn.le
  obtain ⟨w1, hw1⟩ : ∃ w1, w1 = w.alloc (.cells #[.slice N u.cites.length nc, .int .i64 u.states.k, .int .i64 u.states.i, .slice A u.states.ks.length c, .slice S u.steps.length sc] 45) := ⟨_, rfl⟩
  have U1 := Lib.hid (show OneU w w1 u N nc A c S sc from hw1 ▸ OneU.new hn ht hs)
  have OKU := Lib.hid (unit_ok hr)
  have TT := Lib.hid (fun (W : World) (h : Below w1.heap.size w1 W) => hT.keep (U1.out.below.trans (h.mono U1.out.below.size)))
  have UU := Lib.hid (fun (W : World) (h : Below w1.heap.size w1 W) => U1.out.keep h)
  have V0 := Lib.hid (show BW w1 (w1.alloc (.cells #[.pointer none, .slice none 0 0] 51)) [] from ⟨BU.new w1, below_alY _ _⟩)
  obtain ⟨fin, hfin⟩ : ∃ fin : ByteArray, fin = ⟨(unitT u).toArray⟩ := ⟨_, rfl⟩
  rw [← hfin]
  have HFIN := Lib.hid hfin
  clear hn ht hs hT hr hfin
  go_enter Tryd.func39, Tryd.ntmps39
  go_wp2_with fail
  have hz : w.heap.size + 1 = w1.heap.size := by rw [hw1]; simp
  rw [← hw1]
  simp only [hz]
  clear hw1 hz
  have WS0 := Lib.hid (wstr w1.heap.size w1.heap.size [] [99, 105, 116, 101, 115] { data := #[99, 105, 116, 101, 115] } rfl _ V0.out.bu (by simp) V0.out.low.size)
  refine WS0.out.mono ?_
  rintro e w2 ⟨m, rfl, hu, hk⟩
  have V2 := Lib.hid (V0.out.wrote hu hk)
  clear hu hk V0 WS0
  obtain ⟨y0, y1, y2, y3, y4⟩ := (UU.out _ V2.out.low).box.cells
  go_wp2_with fail
  go_loopw [12] (fun i wr => ∃ (k : Nat), k ≤ u.cites.length ∧ i = .int .i64 (k : Int) ∧ BW w1 wr ([99, 105, 116, 101, 115] ++ namesT (u.cites.take k))) (fun i _ => u.cites.length - (intOf i).toNat)
  case atStart => exact ⟨0, Nat.zero_le _, rfl, by rw [List.take_zero]; simpa [namesT] using V2.out⟩
  case round =>
    obtain ⟨k, hk, rfl, hV⟩ := hrel
    have HV := Lib.hid hV
    have HU := Lib.hid (UU.out _ hV.low)
    clear hV y0 y1 y2 y3 y4
    obtain ⟨y0, y1, y2, y3, y4⟩ := HU.out.box.cells
    have lk := names_few OKU.out k
    by_cases hlt : k < u.cites.length
    · obtain ⟨b, o, rfl, hb, hc⟩ := HU.out.names.cell k hlt
      have hsz := OKU.out.names _ (List.getElem_mem hlt)
      have ht := namesT_take hlt
      obtain ⟨nm, hnm⟩ : ∃ nm, nm = u.cites[k] := ⟨_, rfl⟩
      rw [← hnm] at hc hsz ht
      have h1 : nm.data.toList.length ≤ 12 := by rw [Array.length_toList]; exact hsz
      obtain ⟨X1, hX1⟩ : ∃ X1 : ByteArray, X1 = ⟨([32] ++ nm.data.toList).toArray⟩ := ⟨_, rfl⟩
      have a1 : ∀ W : World, (Op.stringOp .add { data := #[32] } nm).run Tryd.prog W = .ok (.string X1) W := fun W => addS (x := [32]) (y := nm.data.toList) rfl (bytes_eta nm) hX1 rfl (by simp only [List.length_cons, List.length_nil]; omega) W
      have WS := Lib.hid (wstr w1.heap.size w1.heap.size ([99, 105, 116, 101, 115] ++ namesT (u.cites.take k)) ([32] ++ nm.data.toList) X1 hX1 _ HV.out.bu (by simp only [List.length_append, List.length_cons, List.length_nil]; omega) HV.out.low.size)
      have HT := Lib.hid (show ([99, 105, 116, 101, 115] ++ namesT (u.cites.take k)) ++ ([32] ++ nm.data.toList) = [99, 105, 116, 101, 115] ++ namesT (u.cites.take (k + 1)) by rw [ht, List.append_assoc])
      clear ht hnm hX1 hsz lk h1
      go_wp2_with fail
      refine WS.out.mono ?_
      rintro e w3 ⟨m, rfl, hu, hk3⟩
      rw [HT.out] at hu
      have V3 := Lib.hid (HV.out.wrote hu hk3)
      clear hu hk3
      go_wp2_with fail
      go_roundw
      case rel => exact ⟨k + 1, by omega, by go_num, V3.out⟩
      case measure => simp [intOf]; omega
    · obtain rfl : k = u.cites.length := by omega
      rw [List.take_length] at HV lk
      have ls := text_short OKU.out.right OKU.out.small
      obtain ⟨st, hst⟩ : ∃ st : ByteArray, st = ⟨(textT u.states).toArray⟩ := ⟨_, rfl⟩
      obtain ⟨X1, hX1⟩ : ∃ X1 : ByteArray, X1 = ⟨([10, 115, 116, 97, 116, 101, 115, 32] ++ textT u.states).toArray⟩ := ⟨_, rfl⟩
      obtain ⟨X2, hX2⟩ : ∃ X2 : ByteArray, X2 = ⟨([10, 115, 116, 97, 116, 101, 115, 32] ++ textT u.states ++ [10]).toArray⟩ := ⟨_, rfl⟩
      have a1 : ∀ W : World, (Op.stringOp .add { data := #[10, 115, 116, 97, 116, 101, 115, 32] } st).run Tryd.prog W = .ok (.string X1) W := fun W => addS (x := [10, 115, 116, 97, 116, 101, 115, 32]) rfl hst hX1 rfl (by simp only [List.length_cons, List.length_nil]; omega) W
      have a2 : ∀ W : World, (Op.stringOp .add X1 { data := #[10] }).run Tryd.prog W = .ok (.string X2) W := fun W => addS (y := [10]) hX1 rfl hX2 rfl (by simp only [List.length_append, List.length_cons, List.length_nil]; omega) W
      have FX := Lib.hid (fun (W : World) (h : IsT W W.heap.size u.states A c) => (show Calls Tryd.prog 82 #[.agg #[.int .i64 u.states.k, .int .i64 u.states.i, .slice A u.states.ks.length c]] W fun e w' => e = .returned (.string st) ∧ Below W.heap.size W w' from hst ▸ uformula_any u.states A c W OKU.out.right h))
      have HL := Lib.hid (head_len OKU.out)
      have WS := Lib.hid (fun (W : World) (h : BW w1 W ([99, 105, 116, 101, 115] ++ namesT u.cites)) => wstr w1.heap.size w1.heap.size ([99, 105, 116, 101, 115] ++ namesT u.cites) ([10, 115, 116, 97, 116, 101, 115, 32] ++ textT u.states ++ [10]) X2 hX2 W h.bu (by simp only [List.length_append, List.length_cons, List.length_nil]; omega) h.low.size)
      have HT := Lib.hid (show ([99, 105, 116, 101, 115] ++ namesT u.cites) ++ ([10, 115, 116, 97, 116, 101, 115, 32] ++ textT u.states ++ [10]) = headT u by simp only [headT])
      clear ls lk hst hX1 hX2 hlt hk V2
      go_wp2_with fail
      refine (FX.out _ (by exact HU.out.tree)).mono ?_
      rintro e w3 ⟨rfl, hb3⟩
      have V3 := Lib.hid (HV.out.keep hb3)
      clear hb3 HU HV y0 y1 y2 y3 y4 FX
      go_wp2_with fail
      refine (WS.out _ V3.out).mono ?_
      rintro e w4 ⟨m, rfl, hu, hk4⟩
      rw [HT.out] at hu
      have V4 := Lib.hid (V3.out.wrote hu hk4)
      clear hu hk4 V3 WS HT a1 a2
      obtain ⟨y0, y1, y2, y3, y4⟩ := (UU.out _ V4.out.low).box.cells
      go_wp2_with fail
      go_loopw [29] (fun i wr => ∃ (k : Nat), k ≤ u.steps.length ∧ i = .int .i64 (k : Int) ∧ BW w1 wr (headT u ++ linesT 0 (u.steps.take k))) (fun i _ => u.steps.length - (intOf i).toNat)
      case atStart => exact ⟨0, Nat.zero_le _, rfl, by rw [List.take_zero]; simpa [linesT] using V4.out⟩
      case round =>
        obtain ⟨wo, rfl⟩ : ∃ wo : World, wo = wr := ⟨_, rfl⟩
        obtain ⟨k, hk, rfl, hV⟩ := hrel
        have HV := Lib.hid hV
        have HU := Lib.hid (UU.out _ hV.low)
        clear hV y0 y1 y2 y3 y4 V4
        by_cases hlt : k < u.steps.length
        · obtain ⟨b, o, A', c', rfl, hb, k0, k1, k2, k3, k4, k5, k6, hq, hTr⟩ := HU.out.steps.at_ k hlt
          have hst := OKU.out.step _ (List.getElem_mem hlt)
          have htk := linesT_take hlt
          obtain ⟨s, hs⟩ : ∃ s, s = u.steps[k] := ⟨_, rfl⟩
          rw [← hs] at k0 k1 k2 k3 k4 k5 k6 hTr hst htk
          have hkk : k < 1000 := by have := OKU.out.steps; omega
          have lf := lines_few OKU.out k
          have lh := HL.out
          have ll := line_len (i := k) hst (by omega)
          obtain ⟨sn, hsn⟩ : ∃ sn : ByteArray, sn = ⟨(itB ((k : Int) + 1)).toArray⟩ := ⟨_, rfl⟩
          obtain ⟨st, hst'⟩ : ∃ st : ByteArray, st = ⟨(textT s.says).toArray⟩ := ⟨_, rfl⟩
          obtain ⟨sw, hsw⟩ : ∃ sw : ByteArray, sw = ⟨(whyT s.why s.a s.b s.cite).toArray⟩ := ⟨_, rfl⟩
          obtain ⟨s2, s3, s4, s5, ln, hln, a2, a3, a4, a5, a6⟩ := lineW k s hst hkk hsn hst' hsw
          obtain ⟨pre, hpre⟩ : ∃ pre, pre = headT u ++ linesT 0 (u.steps.take k) := ⟨_, rfl⟩
          rw [← hpre] at HV
          have hpl : pre.length ≤ 102000 := by rw [hpre, List.length_append]; omega
          have HT := Lib.hid (show pre ++ lineT k s = headT u ++ linesT 0 (u.steps.take (k + 1)) by rw [hpre, htk, List.append_assoc])
          have IA := Lib.hid (fun (W : World) (h : BS w1 wo W pre s A' c') => (show Calls Tryd.prog 41 #[.int .i64 ((k : Int) + 1)] W fun e w' => e = .returned (.string sn) ∧ Below W.heap.size W w' from hsn ▸ itoa_any ((k : Int) + 1) (by omega) (by omega) W (TT.out W h.bw.low)))
          have IT := Lib.hid (fun (W : World) (h : BS w1 wo W pre s A' c') => (show Calls Tryd.prog 82 #[.agg #[.int .i64 s.says.k, .int .i64 s.says.i, .slice A' s.says.ks.length c']] W fun e w' => e = .returned (.string st) ∧ Below W.heap.size W w' from hst' ▸ uformula_any s.says A' c' W hst.right h.tree))
          have IR := Lib.hid (fun (W : World) (h : BS w1 wo W pre s A' c') => (show Calls Tryd.prog 83 #[.agg #[.int .i64 s.says.k, .int .i64 s.says.i, .slice A' s.says.ks.length c', .int .i64 s.why, .int .i64 s.a, .int .i64 s.b, .string s.cite]] W fun e w' => e = .returned (.string sw) ∧ Below W.heap.size W w' from
            hsw ▸ ureason_any s.says.k s.says.i A' s.says.ks.length c' s.why s.a s.b s.cite W hst.a0 hst.a1 hst.b0 hst.b1 hst.cite (TT.out W h.bw.low)))
          have IW := Lib.hid (fun (W : World) (h : BS w1 wo W pre s A' c') => wstr w1.heap.size w1.heap.size pre (lineT k s) ln hln W h.bw.bu (by omega) h.bw.low.size)
          have CE := Lib.hid (fun (W : World) (h : BS w1 wo W pre s A' c') => (show W.cell? ⟨wo.heap.size, 0, none⟩ = some (.int .i64 s.says.k) ∧ (W.cell? ⟨wo.heap.size, 1, none⟩ = some (.int .i64 s.says.i) ∧ (W.cell? ⟨wo.heap.size, 2, none⟩ = some (.slice A' s.says.ks.length c') ∧ (W.cell? ⟨wo.heap.size, 3, none⟩ = some (.int .i64 s.why) ∧ (W.cell? ⟨wo.heap.size, 4, none⟩ = some (.int .i64 s.a) ∧ (W.cell? ⟨wo.heap.size, 5, none⟩ = some (.int .i64 s.b) ∧ W.cell? ⟨wo.heap.size, 6, none⟩ = some (.string s.cite)))))) from h.box.cells))
          have NE := Lib.hid (Nat.ne_of_gt HV.out.bu.lt)
          have T0 := Lib.hid (BS.start HV.out s A' c' hTr)
          have WR := Lib.hid (show IntKind.i64.wrap ((k : Int) + 1) = (k : Int) + 1 from IntWalk.i64_in _ (by omega))
          clear hs hst htk lf lh ll hsn hst' hsw hln hTr hq hpre hpl
          go_wp2_with fail
          have E := Lib.hid T0.out.drew
          clear T0 k0 k1 k2 k3 k4 k5 k6
          go_region_held3 (fun w' => w'.cell? ⟨wo.heap.size, 0, none⟩ = some (.int .i64 s.says.k) ∧ (w'.cell? ⟨wo.heap.size, 1, none⟩ = some (.int .i64 s.says.i) ∧ (w'.cell? ⟨wo.heap.size, 2, none⟩ = some (.slice A' s.says.ks.length c') ∧ (w'.cell? ⟨wo.heap.size, 3, none⟩ = some (.int .i64 s.why) ∧ (w'.cell? ⟨wo.heap.size, 4, none⟩ = some (.int .i64 s.a) ∧ (w'.cell? ⟨wo.heap.size, 5, none⟩ = some (.int .i64 s.b) ∧ w'.cell? ⟨wo.heap.size, 6, none⟩ = some (.string s.cite)))))))
            (first | exact CE.out _ E.out | exact C5.out.cells)
            (first
              | (go_at_call 41; rw [WR.out]; (with_reducible refine (IA.out _ E.out).mono ?_); rintro e5 w5 ⟨rfl, hb5⟩; replace E := Lib.hid (E.out.keep hb5); clear hb5)
              | (go_at_call 82; (with_reducible refine (IT.out _ E.out).mono ?_); rintro e5 w5 ⟨rfl, hb5⟩; replace E := Lib.hid (E.out.keep hb5); clear hb5)
              | (go_at_call 83; (with_reducible refine (IR.out _ E.out).mono ?_); rintro e5 w5 ⟨rfl, hb5⟩; replace E := Lib.hid (E.out.keep hb5); clear hb5)
              | (go_at_call 81; (with_reducible refine (IW.out _ E.out).mono ?_); rintro e5 w5 ⟨m5, rfl, hu5, hk5⟩; have E5 := Lib.hid (E.out.bw.wrote hu5 hk5); have C5 := Lib.hid (hk5.boxS NE.out E.out.box); clear hu5 hk5))
          all_goals
            have V5 := Lib.hid (show BW w1 _ (headT u ++ linesT 0 (u.steps.take (k + 1))) from HT.out ▸ E5.out)
            go_wp2_with fail
            go_roundw
            case rel => exact ⟨k + 1, by omega, by go_num, V5.out⟩
            case measure => simp [intOf]; omega
        · obtain rfl : k = u.steps.length := by omega
          rw [List.take_length] at HV
          have HB := Lib.hid (show BU w1.heap.size w1.heap.size (unitT u) wo from HV.out.bu)
          have LO := Lib.hid HV.out.low
          have UB := Lib.hid U1.out.below
          clear HV HU hlt hk
          go_wp2_with fail
          refine (Tryd.Builder_String_any_k w1.heap.size w1.heap.size (unitT u) _ HB.out LO.out.size).mono ?_
          rintro e w3 ⟨rfl, _, hb3, _⟩
          have B3 := Lib.hid (UB.out.trans ((LO.out.trans hb3).mono UB.out.size))
          clear hb3
          go_wp2_with fail
          go_ret
          exact ⟨by rw [HFIN.out]; rfl, B3.out⟩
end Go.Proofs.YtgnfbhemkombaaaDoor
