/- nodes and visit of package expr: the nodes of a tree, one by one, to whatever loop body. -/
import Derived.Test.YtgnfbhemkombaaaDoorE7
import Derived.RangeFuncNested
import Derived.RangeFuncBound
import Derived.RangeFuncCalls
import Derived.RangeFuncLeaves
import Derived.Shelf.Abstract
import Derived.Shelf.RegionOpen
import Derived.OwnWalkIn
import Derived.TacticsInMore
import Derived.LoopNIn
import Derived.LoopIn
namespace Go.Proofs.YtgnfbhemkombaaaDoor
open Go.RowKit Go.Shelf
attribute [local go_sem] Oper.semAt_some
/-- a node, with its depth, and where its kids lie -/
structure Nd (w0 : World) (B : Nat) where
  d : Nat
  t : Tr
  A : Option Addr
  c : Nat
  h : IsT w0 B t A c
def Nd.nd {w0 : World} {B : Nat} (x : Nd w0 B) : Nat × Tr := (x.d, x.t)
def wr64 (d : Nat) : Int := IntKind.i64.wrap (d : Int)
theorem wr64_succ (d : Nat) : wrap64 (wr64 d + 1) = wr64 (d + 1) := by
  unfold wr64
  simp only [IntKind.wrap_i64]
  unfold wrap64
  omega
theorem wr64_small (d : Nat) (h : d ≤ 1000000) : wr64 d = d := by
  unfold wr64
  rw [IntKind.wrap_i64]
  omega
def encN {w0 : World} {B : Nat} (x : Nd w0 B) : Array Value := #[.int .i64 (wr64 x.d), .agg #[.int .i64 x.t.k, .int .i64 x.t.i, .slice x.A x.t.ks.length x.c]]
theorem room_none {F : Fence} (hd : F.depth = none) (k : Nat) : F.room k := fun d h => by rw [hd] at h; cases h
theorem yieldAny {F : Fence} (hd : F.depth = none) {m : Nat} (m' : Nat) {P : Program} {l : Nat} {args : Array Value} {W : World} {R : Ending → World → Prop} (h : YieldAt F m P l args W R) : YieldAt F m' P l args W R := by
  obtain ⟨fn, tmps, assign, body, hy, hR⟩ := h
  exact ⟨fn, tmps, assign, body, hy, hR.1, fun c cs _ => hR.2 c cs (room_none hd _)⟩
/-- a round keeps all that lay below B, and every row of Exprs from block hi on -/
structure KB (B hi : Nat) (W W' : World) : Prop where
  below : Below B W W'
  cells : ∀ k cs, hi ≤ k → W.heap[k]? = some (.cells cs 24 (0, 0)) → W'.heap[k]? = some (.cells cs 24 (0, 0))
theorem KB.refl (B hi : Nat) (W : World) : KB B hi W W := ⟨Below.refl _ _, fun _ _ _ h => h⟩
theorem KB.trans {B hi : Nat} {X Y Z : World} (h : KB B hi X Y) (k : KB B hi Y Z) : KB B hi X Z := ⟨h.below.trans k.below, fun b o hb h0 => k.cells b o hb (h.cells b o hb h0)⟩
theorem KB.of_below {B hi : Nat} {W W' : World} (h : Below W.heap.size W W') (hB : B ≤ W.heap.size) : KB B hi W W' :=
  ⟨h.mono hB, fun k _ _ h0 => (h.block k (Array.getElem?_eq_some_iff.1 h0).1).trans h0⟩
theorem KB.alloc {B hi : Nat} {W : World} (hB : B ≤ W.heap.size) (o : Obj) : KB B hi W (W.alloc o) := KB.of_below ((Below.refl _ _).alloc (Nat.le_refl _) _) hB
theorem KB.putObj {B hi n : Nat} (hB : B ≤ n) (W : World) (l : Nat) (o o' : Obj) (hl : n ≤ l) (h0 : W.heap[l]? = some o) (hc : o.isCells = false) (hw : o.isWalk = false) : KB B hi W (W.putObj l o') :=
  ⟨belowK_b (w := ⟨Array.replicate n default, W.tape, 0, W.os, W.output⟩) (by simpa using hB) W l o o' (by simpa using hl) h0 hc hw, fun k q _ hk => by
    by_cases e : k = l
    · subst e; rw [h0] at hk; cases hk; cases hc
    · exact (World.putObj_heap_other e).trans hk⟩
theorem KB.box {B hi : Nat} {W W' : World} (h : KB B hi W W') {b : Nat} {cs : Array Value} (hb : hi ≤ b) (h0 : W.heap[b]? = some (.cells cs 24 (0, 0))) : W'.heap[b]? = some (.cells cs 24 (0, 0)) := h.cells b _ hb h0
/-- what visit leaves: all the nodes have come, or some of them, the loop having said 'no more' -/
def VisPost {w0 : World} {B : Nat} (hi : Nat) (J Jx : List (Nd w0 B) → World → Prop) (pre : List (Nd w0 B)) (t : Tr) (d : Nat) (W : World) (e : Ending) (W' : World) : Prop :=
  (e = .returned (.bool true) ∧ (∃ ys, ys.map Nd.nd = t.pre d ∧ J (pre ++ ys) W') ∧ KB B hi W W') ∨ (e = .returned (.bool false) ∧ ∃ ys, ys.map Nd.nd <+: t.pre d ∧ Jx (pre ++ ys) W')
theorem preL_split (d : Nat) (ks : List Tr) (m : Nat) : preL d ks = preL d (ks.take m) ++ preL d (ks.drop m) := by rw [← preL_append, List.take_append_drop]
theorem vis_stop {w0 : World} {B hi : Nat} {J Jx : List (Nd w0 B) → World → Prop} {pre : List (Nd w0 B)} {t : Tr} {d m : Nat} {W W2 : World} (hm : m < t.ks.length) {ys : List (Nd w0 B)} (h1 : ys.map Nd.nd = (d, t) :: preL (d + 1) (t.ks.take m))
    {zs : List (Nd w0 B)} (h2 : zs.map Nd.nd <+: t.ks[m].pre (d + 1)) (h3 : Jx (pre ++ ys ++ zs) W2) : VisPost hi J Jx pre t d W (.returned (.bool false)) W2 := by
  refine .inr ⟨rfl, ys ++ zs, ?_, by rwa [← List.append_assoc]⟩
  rw [List.map_append, h1, pre_eq]
  refine List.IsPrefix.trans (?_ : _ <+: (d, t) :: preL (d + 1) (t.ks.take (m + 1))) ?_
  · rw [preL_take _ _ _ hm, List.cons_append, List.cons_prefix_cons]
    exact ⟨rfl, List.prefix_append_right_inj _ |>.2 h2⟩
  · rw [List.cons_prefix_cons]
    refine ⟨rfl, ?_⟩
    rw [preL_split (d + 1) t.ks (m + 1)]
    exact List.prefix_append _ _
/-- m of the kids are through -/
def VisTo {w0 : World} {B : Nat} (hi : Nat) (J : List (Nd w0 B) → World → Prop) (pre : List (Nd w0 B)) (t : Tr) (d m : Nat) (W W' : World) : Prop :=
  ∃ ys, ys.map Nd.nd = (d, t) :: preL (d + 1) (t.ks.take m) ∧ J (pre ++ ys) W' ∧ KB B hi W W'
theorem vis_step {w0 : World} {B hi : Nat} {J : List (Nd w0 B) → World → Prop} {pre : List (Nd w0 B)} {t : Tr} {d m : Nat} {W wr W2 : World} (hm : m < t.ks.length) {ys : List (Nd w0 B)} (h1 : ys.map Nd.nd = (d, t) :: preL (d + 1) (t.ks.take m))
    {zs : List (Nd w0 B)} (h2 : zs.map Nd.nd = t.ks[m].pre (d + 1)) (h3 : J (pre ++ ys ++ zs) W2) (h4 : KB B hi W wr) (h5 : KB B hi wr W2) : VisTo hi J pre t d (m + 1) W W2 :=
  ⟨ys ++ zs, by rw [List.map_append, h1, h2, preL_take _ _ _ hm, List.cons_append], by rwa [← List.append_assoc], h4.trans h5⟩
theorem vis_len {w0 : World} {B : Nat} {t : Tr} {d m : Nat} {ys : List (Nd w0 B)} (h1 : ys.map Nd.nd = (d, t) :: preL (d + 1) (t.ks.take m)) : ys.length = 1 + szL (t.ks.take m) := by
  have := congrArg List.length h1
  rw [List.length_map, List.length_cons, preL_len] at this
  omega
set_option maxRecDepth 100000 in
set_option maxHeartbeats 2000000 in
theorem visit_in (F : Fence) (hd : F.depth = none) (hF : F.fn 89) (hro : F.round = none) (l B hi N : Nat) (w0 : World) (J Jx : List (Nd w0 B) → World → Prop)
    (hJ : ∀ s W o, J s W → J s (W.alloc o))
    (hY : ∀ m pre x W, J pre W → pre.length < N → YieldAt F m Tryd.prog l (encN x) W fun e W' =>
      (e = .returned (.bool true) ∧ J (pre ++ [x]) W' ∧ KB B hi W W') ∨ (e = .returned (.bool false) ∧ Jx (pre ++ [x]) W')) :
    ∀ (M : Nat) (t : Tr) (n d : Nat) (A : Option Addr) (c : Nat) (pre : List (Nd w0 B)) (W : World), t.sz ≤ M → IsT w0 B t A c → Below B w0 W → B ≤ hi → hi ≤ W.heap.size → J pre W → pre.length + t.sz ≤ N →
      CallsIn F n Tryd.prog 89 #[.agg #[.int .i64 t.k, .int .i64 t.i, .slice A t.ks.length c], .int .i64 (wr64 d), .func (.yield l) #[] #[]] W (VisPost hi J Jx pre t d W) := by
  intro M
  induction M with
  | zero => intro t n d A c pre W h; have := sz_pos t; omega
  | succ M ih =>
    intro t n d A c pre W hM ht hW hBh hBW hJ0 hN
    have IH := Lib.hid ih
    have HT := Lib.hid ht
    have hl := ht.len
    have hdd : ∀ k : Nat, (F.depth.isSome = true → 1 ≤ k) := fun k h => by rw [hd] at h; cases h
    have hzb : KB B hi W (W.alloc (.cells #[.int .i64 t.k, .int .i64 t.i, .slice A t.ks.length c] 24)) := KB.alloc (by omega) _
    have hY1 := hY (n - 1) pre ⟨d, t, A, c, ht⟩ (W.alloc (.cells #[.int .i64 t.k, .int .i64 t.i, .slice A t.ks.length c] 24)) (hJ _ _ _ hJ0) (by have := sz_pos t; omega)
    simp only [encN] at hY1
    obtain ⟨x, hx⟩ : ∃ x : Nd w0 B, x = ⟨d, t, A, c, ht⟩ := ⟨_, rfl⟩
    have XN := Lib.hid (show x.nd = (d, t) by rw [hx]; rfl)
    rw [← hx] at hY1
    clear hx
    have hY2 := YieldAt.mono hY1 (R' := fun e W2 => (e = .returned (.bool true) ∧ W2.cell? ⟨W.heap.size, 2, none⟩ = some (.slice A t.ks.length c) ∧ J (pre ++ [x]) W2 ∧ KB B hi (W.alloc (.cells #[.int .i64 t.k, .int .i64 t.i, .slice A t.ks.length c] 24)) W2) ∨ (e = .returned (.bool false) ∧ Jx (pre ++ [x]) W2)) (fun e W2 h => h.elim (fun ⟨he, hj, hb2⟩ => .inl ⟨he, by
      have := hb2.box (b := W.heap.size) hBW (World.alloc_heap_new W _)
      simp [World.cell?, this], hj, hb2⟩) .inr)
    clear hY1
    obtain ⟨fn, tmps, assign, body, hy, hR⟩ := hY2
    have SE := wr64_succ d
    have SZ := Lib.hid (sz_eq t)
    have HJ := Lib.hid hJ
    clear ih ht hY hJ
    refine callsIn_of_wp Tryd.func89 rfl hF ?_ hro
    simp only [Tryd.ntmps89, List.size_toArray, List.length_cons, List.length_nil, Nat.reduceAdd, Nat.reduceSub, Array.replicate_succ, Array.replicate_zero, List.push_toArray, List.append_toArray, List.nil_append, List.cons_append]
    gi_wp2_with ((try refine ⟨hdd _, ?_⟩); refine hR.mono ?_; clear hR; rintro e W2 (⟨rfl, hcl, hJ2, hb2⟩ | ⟨rfl, hx2⟩))
    · -- the loop goes on
      gi_loopw [17] (fun i wr => ∃ m : Nat, m ≤ t.ks.length ∧ i = .int .i64 m ∧ VisTo hi J pre t d m W wr) (fun i _ => t.ks.length - (intOf i).toNat)
      case atStart => exact ⟨0, Nat.zero_le _, rfl, [x], by simp [XN.out, preL], hJ2, hzb.trans hb2⟩
      case round =>
        obtain ⟨m, hm', rfl, ys, hys, hJr, hkr⟩ := hrel
        have YS := Lib.hid hys
        have hbr := hW.trans hkr.below
        have hszr := hkr.below.size
        by_cases hlt : m < t.ks.length
        · obtain ⟨b, o, A', c', rfl, hlt', p0, p1, p2, hk⟩ := HT.out.kid m hlt
          have kz := kid_sz t m hlt
          have STEP := Lib.hid (fun W wr W2 => @vis_step w0 B hi J pre t d m W wr W2 hlt ys hys)
          have STOP := Lib.hid (fun W W2 => @vis_stop w0 B hi J Jx pre t d m W W2 hlt ys hys)
          have hylen := vis_len hys
          have hs1 := szL_take t.ks m hlt
          have hs2 := szL_take_le t.ks (m + 1)
          obtain ⟨q, hq⟩ : ∃ q, q = t.ks[m] := ⟨_, rfl⟩
          rw [← hq] at p0 p1 p2 hk kz STEP STOP hs1
          clear hq hys
          have e0 := (hbr.cell hlt').trans p0
          have e1 := (hbr.cell hlt').trans p1
          have e2 := (hbr.cell hlt').trans p2
          have HKR := Lib.hid hkr
          have ha : KB B hi wr (wr.alloc (.cells #[.int .i64 q.k, .int .i64 q.i, .slice A' q.ks.length c'] 24)) := KB.alloc (by omega) _
          have CALL := Lib.hid (IH.out q (n - 1) (d + 1) A' c' (pre ++ ys) (wr.alloc (.cells #[.int .i64 q.k, .int .i64 q.i, .slice A' q.ks.length c'] 24)) (by omega) hk (hbr.trans ha.below) hBh (by simp; omega) (HJ.out _ _ _ hJr) (by have := SZ.out; simp; omega))
          have HA := Lib.hid ha
          clear p0 p1 p2 hk hkr hs1 hs2 hylen ha
          gi_wp2_with ((try refine ⟨hdd _, ?_⟩); gi_at_call 89; refine CALL.out.mono ?_; rintro e W3 (⟨rfl, ⟨zs, hz, hJ3⟩, hk3⟩ | ⟨rfl, zs, hz, hJ3⟩))
          · go_roundw
            case rel => exact ⟨m + 1, by omega, by go_num, STEP.out _ _ _ hz hJ3 HKR.out (HA.out.trans hk3)⟩
            case measure => simp [intOf]; omega
          · go_ret
            exact STOP.out _ _ hz hJ3
        · obtain rfl : m = t.ks.length := by omega
          have Y2 := Lib.hid (show ys.map Nd.nd = t.pre d by rw [YS.out, List.take_length, pre_eq])
          clear hys
          gi_wp2_with fail
          go_ret
          exact .inl ⟨rfl, ⟨ys, Y2.out, hJr⟩, hkr⟩
    · go_ret
      exact .inr ⟨rfl, [x], by rw [List.map_cons, XN.out, pre_eq]; exact List.prefix_append [_] _, hx2⟩
set_option maxHeartbeats 1000000 in
/-- nodes: the tree is boxed; the function value holds the box -/
theorem nodes_in (F : Fence) (n : Nat) (hF : F.fn 43) (hro : F.round = none) (k i : Int) (A : Option Addr) (m c : Nat) (w : World) :
    CallsIn F n Tryd.prog 43 #[.agg #[.int .i64 k, .int .i64 i, .slice A m c]] w fun e w' => e = .returned (.func (.func 88) #[] #[.pointer (some ⟨w.heap.size, 0, none⟩)]) ∧ w.alloc (.cells #[.int .i64 k, .int .i64 i, .slice A m c] 24) = w' := by
  refine callsIn_of_wp Tryd.func43 rfl hF ?_ hro
  simp only [Tryd.ntmps43, List.size_toArray, List.length_cons, List.length_nil, Nat.reduceAdd, Nat.reduceSub, Array.replicate_succ, Array.replicate_zero, List.push_toArray, List.append_toArray, List.nil_append, List.cons_append]
  gi_wp2
  go_ret
  exact ⟨rfl, rfl⟩
set_option maxHeartbeats 1000000 in
theorem nodes1_in (F : Fence) (hd : F.depth = none) (n : Nat) (hF1 : F.fn 88) (hF : F.fn 89) (hro : F.round = none) (l Bt B hi : Nat) (w0 : World) (t : Tr) (A : Option Addr) (c : Nat) (J Jx : List (Nd w0 B) → World → Prop)
    (hJ : ∀ s W o, J s W → J s (W.alloc o))
    (hY : ∀ pre x W, J pre W → pre.length < t.sz → YieldAt F (n - 1) Tryd.prog l (encN x) W fun e W' =>
      (e = .returned (.bool true) ∧ J (pre ++ [x]) W' ∧ KB B hi W W') ∨ (e = .returned (.bool false) ∧ Jx (pre ++ [x]) W'))
    (W : World) (hb : W.cell? ⟨Bt, 0, none⟩ = some (.int .i64 t.k) ∧ W.cell? ⟨Bt, 1, none⟩ = some (.int .i64 t.i) ∧ W.cell? ⟨Bt, 2, none⟩ = some (.slice A t.ks.length c)) (ht : IsT w0 B t A c) (hW : Below B w0 W) (hBh : B ≤ hi) (hh : hi ≤ W.heap.size) (h0 : J [] W) :
    CallsIn F n Tryd.prog 88 #[.func (.yield l) #[] #[], .pointer (some ⟨Bt, 0, none⟩)] W fun e W' => (∃ v, e = .returned v) ∧
      ((∃ xs : List (Nd w0 B), xs.map Nd.nd = t.pre 1 ∧ J xs W') ∨ (∃ pre : List (Nd w0 B), pre.map Nd.nd <+: t.pre 1 ∧ Jx pre W')) := by
  have hdd : ∀ k : Nat, (F.depth.isSome = true → 1 ≤ k) := fun k h => by rw [hd] at h; cases h
  have hp := visit_in F hd hF hro l B hi t.sz w0 J Jx hJ (fun m pre x W hj hl => yieldAny hd m (hY pre x W hj hl)) t.sz t (n - 1) 1 A c [] W (Nat.le_refl _) ht hW hBh hh h0 (by simp)
  rw [show wr64 1 = 1 from wr64_small 1 (by omega)] at hp
  obtain ⟨b0, b1, b2⟩ := hb
  have HP := Lib.hid hp
  clear hp hY hJ
  refine callsIn_of_wp Tryd.func88 rfl hF1 ?_ hro
  simp only [Tryd.ntmps88, List.size_toArray, List.length_cons, List.length_nil, Nat.reduceAdd, Nat.reduceSub, Array.replicate_succ, Array.replicate_zero, List.push_toArray, List.append_toArray, List.nil_append, List.cons_append]
  gi_wp2_with ((try refine ⟨hdd _, ?_⟩); gi_at_call 89; refine HP.out.mono ?_; rintro e W1 (⟨rfl, ⟨ys, hy, hJ1⟩, _⟩ | ⟨rfl, ys, hy, hx⟩))
  · go_end0
    exact ⟨⟨_, rfl⟩, .inl ⟨ys, hy, by simpa using hJ1⟩⟩
  · go_end0
    exact ⟨⟨_, rfl⟩, .inr ⟨ys, hy, by simpa using hx⟩⟩
theorem nodes_stops (F : Fence) (hd : F.depth = none) (n : Nat) (hF1 : F.fn 88) (hF : F.fn 89) (hro : F.round = none) (Bt B hi : Nat) (w0 : World) (t : Tr) (A : Option Addr) (c : Nat) (w : World) (hBt : Bt < w.heap.size) (hh : hi ≤ w.heap.size) (hBh : B ≤ hi)
    (hb : w.cell? ⟨Bt, 0, none⟩ = some (.int .i64 t.k) ∧ w.cell? ⟨Bt, 1, none⟩ = some (.int .i64 t.i) ∧ w.cell? ⟨Bt, 2, none⟩ = some (.slice A t.ks.length c)) (ht : IsT w0 B t A c) (hW : Below B w0 w) :
    SeqStopsK F n Tryd.prog 88 #[.pointer (some ⟨Bt, 0, none⟩)] (encN (w0 := w0) (B := B)) (KB B hi) (fun ys => ys.map Nd.nd = t.pre 1) (fun pre => pre.map Nd.nd <+: t.pre 1) t.sz w := fun l J Jx W hb0 hJ _ hY h0 =>
  nodes1_in F hd n hF1 hF hro l Bt B hi w0 t A c J Jx (fun s W o hs => hJ s W _ none hs (World.grownBy_alloc W o none) (fun r e => by cases e)) hY W (keep_box hb0 hBt hb) ht (hW.trans (hb0.mono (by omega))) hBh (Nat.le_trans hh hb0.size) h0
end Go.Proofs.YtgnfbhemkombaaaDoor
