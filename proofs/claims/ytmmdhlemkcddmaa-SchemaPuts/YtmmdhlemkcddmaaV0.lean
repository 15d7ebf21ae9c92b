/- Trees in boxes, many at once; what Each answers may be laid in memory. -/
import Derived.Test.YtmmdhlemkcddmaaS5
import Derived.Test.YtmmdhlemkcddmaaEV
import Derived.Test.YtmmdhlemkcddmaaT18
namespace Go.Proofs.Ytmmdhlemkcddmaa
open Go.RowKit
set_option linter.unusedVariables false
set_option linter.unusedSimpArgs false
theorem right_fit {t : Tr} (h : rightN t = 0) : t.fit := by
  have : ∀ t : Tr, t.shp = true → t.fit := by
    intro t
    induction t using Tr.ind with
    | h t ih =>
      intro hs
      have := (kind_of_shp t hs).2.2.2.2
      exact (fit_eq t).2 ⟨by unfold Cap; omega, fun q hq => ih q hq (shp_kid hs hq)⟩
  exact this t (right_shp' h).1
theorem zero_fit : zeroT.fit := (fit_eq zeroT).2 ⟨by unfold Cap zeroT; simp [Tr.ks], fun q hq => by simp [zeroT, Tr.ks] at hq⟩
theorem eachR_fit (a : Tr) (l : List (Int × Tr)) : (eachR a l).1.fit := by
  unfold eachR
  split
  · rename_i h
    unfold eachN at h
    split at h
    · rename_i h1; exact absurd h h1
    · split at h
      · cases h
      · exact right_fit h
  · exact zero_fit
theorem eachR_snd (a : Tr) (l : List (Int × Tr)) : (eachR a l).2 = eachN a l := by
  unfold eachR
  split
  · rename_i h; exact h.symm
  · rfl
/-- what is answered lies in memory -/
theorem AnsPost.is {w' : World} {x : Tr × Nat} {lo : Nat} {A : Option Addr} {c : Nat} (h : OwnT w' lo w'.heap.size x.1 A c) (hf : x.1.fit) : IsT w' w'.heap.size x.1 A c := h.isT _ (Nat.le_refl _) hf
/-- one pair alone -/
theorem faultE_one {a t : Tr} {x : Int} : faultE a [(x, t)] = if ¬ (0 ≤ x ∧ x ≤ 63) then 1 else if rightN a ≠ 0 then rightN a else if rightN t ≠ 0 then rightN t else if termB t.k = false then 40 else 0 := by
  have e1 : argE [(x, t)] 0 = decide (0 ≤ x ∧ x ≤ 63) := by
    simp [argE, hasN_zero]
  have e2 : rightL [(x, t)] = rightN t := by
    simp only [rightL]
    split
    · rfl
    · rename_i h; simp at h; exact h.symm
  have e3 : termL [(x, t)] = termB t.k := by simp [termL]
  unfold faultE
  rw [e1, e2, e3]
  by_cases hx : 0 ≤ x ∧ x ≤ 63
  · rw [decide_eq_true hx, if_neg (by simp), if_neg (show ¬ ¬ (0 ≤ x ∧ x ≤ 63) from fun h => h hx)]
  · rw [decide_eq_false hx, if_pos rfl, if_pos hx]
theorem capE_one {a t : Tr} {x : Int} : capE a [(x, t)] = decide (catT (varsT t) x a = 0) := by
  unfold capE capE.ffB'
  simp
/-- a good call -/
theorem eachN_one {a t : Tr} {x : Int} (hx : 0 ≤ x ∧ x ≤ 63) (ha : rightN a = 0) (ht : rightN t = 0) (hk : termB t.k = true) : eachN a [(x, t)] = if catT (varsT t) x a = 0 then rightN (putX x t a) else 50 := by
  have hf : faultE a [(x, t)] = 0 := by rw [faultE_one, if_neg (show ¬ ¬ (0 ≤ x ∧ x ≤ 63) from fun h => h hx), if_neg (by simp [ha]), if_neg (by simp [ht]), if_neg (by simp [hk])]
  unfold eachN
  rw [hf, capE_one]
  by_cases hc : catT (varsT t) x a = 0
  · rw [decide_eq_true hc, if_pos hc]; rfl
  · rw [decide_eq_false hc, if_neg hc]; rfl
theorem eachR_one_ok {a t : Tr} {x : Int} (h : eachN a [(x, t)] = 0) : eachR a [(x, t)] = (putX x t a, 0) := by unfold eachR; rw [if_pos h]
theorem eachR_nil {a : Tr} (ha : rightN a = 0) : eachR a [] = (a, 0) := by
  have h : eachN a [] = 0 := by
    unfold eachN faultE
    simp [argE, ha, rightL, termL, capE, putE_nil]
  unfold eachR
  rw [if_pos h, putE_nil]
theorem like_refl (a : Tr) : likeB a a = true := by unfold likeB; exact decide_eq_true (cmpT_self a)
theorem like_iff {a b : Tr} : likeB a b = true ↔ a = b := by unfold likeB; rw [decide_eq_true_eq]; exact cmpT_zero a b
/-- a box that was laid ahead is filled with what is answered -/
theorem Env.box {w w2 W : World} {bs : List (Nat × Tr × Option Addr × Nat)} (E : Env w w2 bs) (BB : Below w2.heap.size w2 W) {nb lo : Nat} {t : Tr} {A : Option Addr} {c : Nat} {x y z : Value} (NB : Box3 W nb x y z) (hnb : w2.heap.size ≤ nb) (hlo : nb < lo) (ho : OwnT W lo W.heap.size t A c) (hf : t.fit) :
    Env w (((W.setCell ⟨nb, 0, none⟩ (.int .i64 t.k)).setCell ⟨nb, 1, none⟩ (.int .i64 t.i)).setCell ⟨nb, 2, none⟩ (.slice A t.ks.length c)) ((nb, t, A, c) :: bs) := by
  have b3 := below_set3 BB (.int .i64 t.k) (.int .i64 t.i) (.slice A t.ks.length c) hnb
  refine ⟨E.below.trans (b3.mono E.below.size), fun q hq => ?_⟩
  rcases List.mem_cons.1 hq with rfl | hq
  · obtain ⟨c0, c1, c2⟩ := (NB.set3 (.int .i64 t.k) (.int .i64 t.i) (.slice A t.ks.length c)).cells
    refine ⟨c0, c1, c2, (OwnT.same _ (same_set3 _ _ _ _ _ hlo) ho).isT _ (by simp) hf⟩
  · exact (E.bts q hq).keep b3
theorem Env.fresh {w w2 W : World} {bs : List (Nat × Tr × Option Addr × Nat)} (E : Env w w2 bs) (BB : Below w2.heap.size w2 W) {lo : Nat} {t : Tr} {A : Option Addr} {c : Nat} (ho : OwnT W lo W.heap.size t A c) (hf : t.fit) :
    Env w (W.alloc (.cells #[.int .i64 t.k, .int .i64 t.i, .slice A t.ks.length c] 24)) ((W.heap.size, t, A, c) :: bs) := (E.keep BB).push (ho.isT _ (Nat.le_refl _) hf)
theorem stepA {w W W' : World} {o : Obj} (BB : Below w.heap.size w W) (h : Below (W.alloc o).heap.size (W.alloc o) W') : Below w.heap.size w W' := (BB.trans ((below_alloc W o).mono BB.size)).trans (h.mono (Nat.le_trans BB.size (below_alloc W o).size))
theorem stepB {w W W' : World} (BB : Below w.heap.size w W) (h : Below W.heap.size W W') : Below w.heap.size w W' := BB.trans (h.mono BB.size)
theorem boxA {W W' : World} {x y z : Value} (h : Below (W.alloc (.cells #[x, y, z] 24)).heap.size (W.alloc (.cells #[x, y, z] 24)) W') : Box3 W' W.heap.size x y z := (Box3.new W x y z).keep h (by simp)
theorem stepD {w W' : World} {o : Obj} (h : Below (w.alloc o).drew.heap.size (w.alloc o).drew W') : Below w.drew.heap.size w.drew W' := by
  refine Below.trans (b := (w.alloc o).drew) ?_ (h.mono (below_alloc w o).size)
  exact (below_alloc w.drew o)
theorem boxD {w W' : World} {x y z : Value} (h : Below (w.alloc (.cells #[x, y, z] 24)).drew.heap.size (w.alloc (.cells #[x, y, z] 24)).drew W') : Box3 W' w.heap.size x y z := Box3.keep (w := (w.alloc (.cells #[x, y, z] 24)).drew) (Box3.new w x y z) h (by show w.heap.size < (w.alloc _).heap.size; simp)
theorem isT_var (W : World) (B : Nat) (x : Int) : IsT W B (varT x) none 0 := IsT.mk (Nat.le_refl _) (by simp [Tr.ks, Cap]) fun m hm => by simp [Tr.ks] at hm
end Go.Proofs.Ytmmdhlemkcddmaa
