/- Trees in boxes, many at once. -/
import Derived.Test.YtgnfbhemkombaaaGreatBX
namespace Go.Proofs.YtgnfbhemkombaaaGreat
open Go.RowKit
set_option linter.unusedVariables false
set_option linter.unusedSimpArgs false
/-- boxes that hold trees -/
structure Env (w W : World) (bs : List (Nat × Tr × Option Addr × Nat)) : Prop where
  below : Below w.heap.size w W
  bts : ∀ x ∈ bs, Bt W x.1 x.2.1 x.2.2.1 x.2.2.2
theorem Env.keep {w W W' : World} {bs : List (Nat × Tr × Option Addr × Nat)} (h : Env w W bs) (hb : Below W.heap.size W W') : Env w W' bs :=
  ⟨h.below.trans (hb.mono h.below.size), fun x hx => (h.bts x hx).keep hb⟩
theorem Env.start (w : World) : Env w w [] := ⟨Below.refl _ _, fun x hx => by simp at hx⟩
theorem Env.push {w W : World} {bs : List (Nat × Tr × Option Addr × Nat)} {t : Tr} {A : Option Addr} {c : Nat} (h : Env w W bs) (ht : IsT W W.heap.size t A c) : Env w (W.alloc (.cells #[.int .i64 t.k, .int .i64 t.i, .slice A t.ks.length c] 24)) ((W.heap.size, t, A, c) :: bs) :=
  ⟨h.below.trans ((alB W _).mono h.below.size), fun x hx => by
    rcases List.mem_cons.1 hx with rfl | hx
    · exact Bt.new ht
    · exact (h.bts x hx).keep (alB W _)⟩
theorem Env.alloc {w W : World} {bs : List (Nat × Tr × Option Addr × Nat)} (h : Env w W bs) (o : Obj) : Env w (W.alloc o) bs := h.keep (alB W o)
theorem Env.cells {w W : World} {bs : List (Nat × Tr × Option Addr × Nat)} (h : Env w W bs) (b : Nat) (t : Tr) (A : Option Addr) (c : Nat) (hx : (b, t, A, c) ∈ bs) : W.cell? ⟨b, 0, none⟩ = some (.int .i64 t.k) ∧ W.cell? ⟨b, 1, none⟩ = some (.int .i64 t.i) ∧ W.cell? ⟨b, 2, none⟩ = some (.slice A t.ks.length c) := ⟨(h.bts _ hx).c0, (h.bts _ hx).c1, (h.bts _ hx).c2⟩
theorem Env.tree {w W : World} {bs : List (Nat × Tr × Option Addr × Nat)} (h : Env w W bs) (b : Nat) (t : Tr) (A : Option Addr) (c : Nat) (hx : (b, t, A, c) ∈ bs) : IsT W W.heap.size t A c := (h.bts _ hx).tree
theorem env1 {w : World} {a : Tr} {A : Option Addr} {c : Nat} (ha : IsT w w.heap.size a A c) : Env w (w.alloc (.cells #[.int .i64 a.k, .int .i64 a.i, .slice A a.ks.length c] 24)) [(w.heap.size, a, A, c)] := (Env.start w).push ha
theorem env2 {w : World} {a t : Tr} {A A' : Option Addr} {c c' : Nat} (ha : IsT w w.heap.size a A c) (ht : IsT w w.heap.size t A' c') : Env w ((w.alloc (.cells #[.int .i64 a.k, .int .i64 a.i, .slice A a.ks.length c] 24)).alloc (.cells #[.int .i64 t.k, .int .i64 t.i, .slice A' t.ks.length c'] 24)) [(w.heap.size + 1, t, A', c'), (w.heap.size, a, A, c)] := by
  have := (env1 ha).push (ht.keep (alB w _) (alB w _).size)
  rw [World.size_alloc] at this
  exact this
theorem env3 {w : World} {a t u : Tr} {A A' A'' : Option Addr} {c c' c'' : Nat} (ha : IsT w w.heap.size a A c) (ht : IsT w w.heap.size t A' c') (hu : IsT w w.heap.size u A'' c'') : Env w (((w.alloc (.cells #[.int .i64 a.k, .int .i64 a.i, .slice A a.ks.length c] 24)).alloc (.cells #[.int .i64 t.k, .int .i64 t.i, .slice A' t.ks.length c'] 24)).alloc (.cells #[.int .i64 u.k, .int .i64 u.i, .slice A'' u.ks.length c''] 24)) [(w.heap.size + 2, u, A'', c''), (w.heap.size + 1, t, A', c'), (w.heap.size, a, A, c)] := by
  have := (env2 ha ht).push ((hu.keep (alB w _) (alB w _).size).keep (alB _ _) (alB _ _).size)
  rw [World.size_alloc, World.size_alloc] at this
  exact this
end Go.Proofs.YtgnfbhemkombaaaGreat
