/- The laws ExprSames, ExprOrders, walked. -/
import Derived.Test.YtdobpdedphkglaaE12
namespace Go.Proofs.Ytdobpdedphkglaa
open Go.RowKit
theorem Two.drew {w wr : World} {a b : Tr} {A A' : Option Addr} {c c' : Nat} (h : Two w wr a b A A' c c') : Two w wr.drew a b A A' c c' := by
  have hb : Below wr.heap.size wr wr.drew := (Below.refl _ _).drew
  exact h.keep hb
theorem sameB_self (a : Tr) : sameB a a = decide (rightN a = 0) := by
  rw [sameB_eq]
  unfold likeB
  rw [decide_eq_true (cmpT_self a)]
  cases decide (rightN a = 0) <;> rfl
attribute [local go_sem ↓] Go.wp_at_zero Go.wp_at_succ
/-- box b holds the value of t, whose kids lie behind (A, c) -/
structure Hs (wr : World) (b : Nat) (t : Tr) (A : Option Addr) (c : Nat) : Prop where
  c0 : wr.cell? ⟨b, 0, none⟩ = some (.int .i64 t.k)
  c1 : wr.cell? ⟨b, 1, none⟩ = some (.int .i64 t.i)
  c2 : wr.cell? ⟨b, 2, none⟩ = some (.slice A t.ks.length c)
  t : IsT wr wr.heap.size t A c
theorem Hs.keep {wr w1 : World} {b : Nat} {t : Tr} {A : Option Addr} {c : Nat} (h : Hs wr b t A c) (hb : Below wr.heap.size wr w1) : Hs w1 b t A c := by
  have e : ∀ {p : Addr} {v : Value}, wr.cell? p = some v → w1.cell? p = some v := fun hv => (hb.cell (block_lt_of_cell hv)).trans hv
  exact ⟨e h.c0, e h.c1, e h.c2, h.t.keep hb hb.size⟩
theorem Hs.new {w : World} {t : Tr} {A : Option Addr} {c : Nat} (h : IsT w w.heap.size t A c) : Hs (w.alloc (.cells #[.int .i64 t.k, .int .i64 t.i, .slice A t.ks.length c] 24)) w.heap.size t A c := by
  have hb : Below w.heap.size w (w.alloc (.cells #[.int .i64 t.k, .int .i64 t.i, .slice A t.ks.length c] 24)) := (Below.refl _ _).alloc (Nat.le_refl _) _
  obtain ⟨f0, f1, f2⟩ := box_new w (.int .i64 t.k) (.int .i64 t.i) (.slice A t.ks.length c) 24
  exact ⟨f0, f1, f2, h.keep hb hb.size⟩
theorem Hs.alloc {wr : World} {b : Nat} {t : Tr} {A : Option Addr} {c : Nat} (h : Hs wr b t A c) (o : Obj) : Hs (wr.alloc o) b t A c := h.keep ((Below.refl _ _).alloc (Nat.le_refl _) _)
structure Three (w wr : World) (a b d : Tr) (A A' A2 : Option Addr) (c c' c2 : Nat) : Prop where
  a : Hs wr w.heap.size a A c
  b : Hs wr (w.heap.size + 1) b A' c'
  d : Hs wr (w.heap.size + 1 + 1) d A2 c2
  below : Below w.heap.size w wr
theorem three_start {w : World} {a b d : Tr} {A A' A2 : Option Addr} {c c' c2 : Nat} (ha : IsT w w.heap.size a A c) (hb : IsT w w.heap.size b A' c') (hd : IsT w w.heap.size d A2 c2) :
    Three w (((w.alloc (.cells #[.int .i64 a.k, .int .i64 a.i, .slice A a.ks.length c] 24)).alloc (.cells #[.int .i64 b.k, .int .i64 b.i, .slice A' b.ks.length c'] 24)).alloc (.cells #[.int .i64 d.k, .int .i64 d.i, .slice A2 d.ks.length c2] 24)) a b d A A' A2 c c' c2 := by
  have h1 : Below w.heap.size w (w.alloc (.cells #[.int .i64 a.k, .int .i64 a.i, .slice A a.ks.length c] 24)) := (Below.refl _ _).alloc (Nat.le_refl _) _
  have h2 : Below w.heap.size w ((w.alloc (.cells #[.int .i64 a.k, .int .i64 a.i, .slice A a.ks.length c] 24)).alloc (.cells #[.int .i64 b.k, .int .i64 b.i, .slice A' b.ks.length c'] 24)) := h1.alloc h1.size _
  have e2 := Hs.new (hb.keep h1 h1.size)
  have e3 := Hs.new (hd.keep h2 h2.size)
  simp only [World.size_alloc] at e2 e3
  exact ⟨((Hs.new ha).alloc _).alloc _, e2.alloc _, e3, h2.alloc h2.size _⟩
theorem Three.keep {w wr w1 : World} {a b d : Tr} {A A' A2 : Option Addr} {c c' c2 : Nat} (h : Three w wr a b d A A' A2 c c' c2) (hb : Below wr.heap.size wr w1) : Three w w1 a b d A A' A2 c c' c2 :=
  ⟨h.a.keep hb, h.b.keep hb, h.d.keep hb, h.below.trans (hb.mono h.below.size)⟩
theorem cmp_ends (a b d : Tr) (h1 : cmpT a b ≤ 0) (h2 : cmpT b d ≤ 0) : cmpT a d ≤ 0 ∧ (cmpT a d = 0 → cmpT a b = 0 ∧ cmpT b d = 0) := by
  refine ⟨cmpT_trans a b d h1 h2, fun h => ?_⟩
  have e := (cmpT_zero a d).1 h
  subst e
  have := cmpT_neg b a
  have := cmpT_neg a b
  omega
/-- what the shell tells of a slice of integers that came in -/
def IsRow (k : IntKind) (w : World) (a : Option Addr) (len cap : Nat) (zs : List Int) : Prop :=
  (a = none ∧ len = 0 ∧ cap = 0 ∧ zs = []) ∨ ∃ x, a = some x ∧ len ≤ cap ∧ cap ≤ maxLen ∧ zs.length = cap ∧ (∀ i, i < zs.length → w.cell? (x.add i) = some (.int k (zs.getD i 0))) ∧ ∀ n ∈ zs, (Lit.int k n).wf = true
theorem likeB_self (a : Tr) : likeB a a = true := by unfold likeB; exact decide_eq_true (cmpT_self a)
theorem OwnT.is {w w' : World} {t : Tr} {lo hi : Nat} {A : Option Addr} {c : Nat} (h : OwnT w lo hi t A c) (hf : t.fit) (hb : Below w.heap.size w w') (hh : hi ≤ w.heap.size) : IsT w' w'.heap.size t A c :=
  (h.isT _ hh hf).keep hb hb.size
end Go.Proofs.Ytdobpdedphkglaa
