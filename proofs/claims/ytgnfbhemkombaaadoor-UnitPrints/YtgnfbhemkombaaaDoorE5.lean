/- A tree in memory of one's own: its rows, block by block, none of them met twice. -/
import Derived.Test.YtgnfbhemkombaaaDoorE1
import Derived.Laws.OwnMore
import Derived.Deep.AppendLies
namespace Go.Proofs.YtgnfbhemkombaaaDoor
open Go.RowKit
/-- the cells of a list of kids -/
def rowC : List Tr → List (Option Addr × Nat) → List Value
  | t :: r, (A, c) :: s => .int .i64 t.k :: .int .i64 t.i :: .slice A t.ks.length c :: rowC r s
  | _, _ => []
theorem rowC_len : ∀ (l : List Tr) (cs : List (Option Addr × Nat)), cs.length = l.length → (rowC l cs).length = l.length * 3
  | [], [], _ => rfl
  | t :: r, (A, c) :: s, h => by simp only [rowC, List.length_cons]; rw [rowC_len r s (by simpa using h)]; omega
theorem rowC_snoc : ∀ (l : List Tr) (cs : List (Option Addr × Nat)) (t : Tr) (A : Option Addr) (c : Nat), cs.length = l.length → rowC (l ++ [t]) (cs ++ [(A, c)]) = rowC l cs ++ [.int .i64 t.k, .int .i64 t.i, .slice A t.ks.length c]
  | [], [], t, A, c, _ => rfl
  | x :: r, (B, d) :: s, t, A, c, h => by simp only [rowC, List.cons_append]; rw [rowC_snoc r s t A c (by simpa using h)]
theorem rowC_get : ∀ (l : List Tr) (cs : List (Option Addr × Nat)) (m : Nat) (h : m < l.length), (hc : cs.length = l.length) →
    (rowC l cs)[m * 3]? = some (.int .i64 l[m].k) ∧ (rowC l cs)[m * 3 + 1]? = some (.int .i64 l[m].i) ∧ (rowC l cs)[m * 3 + 2]? = some (.slice (cs[m]'(by omega)).1 l[m].ks.length (cs[m]'(by omega)).2)
  | t :: r, (A, c) :: s, 0, _, _ => by simp [rowC]
  | t :: r, (A, c) :: s, m + 1, h, hc => by
    have := rowC_get r s m (by simpa using h) (by simpa using hc)
    simp only [rowC, List.getElem_cons_succ]
    rw [show (m + 1) * 3 = m * 3 + 3 by omega]
    exact this
/-- block gb (if there is one) is none of lo, .., hi - 1 -/
def Avoid (gb : Option Nat) (lo hi : Nat) : Prop := ∀ g, gb = some g → ¬ (lo ≤ g ∧ g < hi)
def SameIn (lo hi : Nat) (w w' : World) : Prop := ∀ b, lo ≤ b → b < hi → w'.heap[b]? = w.heap[b]?
theorem SameIn.of_below {lo hi B : Nat} {w w' : World} (h : Below B w w') (hh : hi ≤ B) : SameIn lo hi w w' := fun b _ h2 => h.block b (by omega)
theorem SameIn.mono {lo hi lo' hi' : Nat} {w w' : World} (h : SameIn lo hi w w') (h1 : lo ≤ lo') (h2 : hi' ≤ hi) : SameIn lo' hi' w w' := fun b a c => h b (by omega) (by omega)
mutual
/-- the kids of t lie behind (A, c), in rows of the blocks lo, .., hi - 1, none met twice -/
def OwnT (w : World) : Nat → Nat → Tr → Option Addr → Nat → Prop
  | lo, hi, .node _ _ ks, A, c => ∃ cs : List (Option Addr × Nat), cs.length = ks.length ∧ w.ownsRow lo 24 3 (.slice A ks.length c) ks.length (rowC ks cs) ∧ (∀ g, (Value.slice A ks.length c).ownBlock = some g → g < hi) ∧ OwnL w (Value.slice A ks.length c).ownBlock lo hi ks cs
def OwnL (w : World) (gb : Option Nat) : Nat → Nat → List Tr → List (Option Addr × Nat) → Prop
  | lo, hi, [], _ => lo ≤ hi
  | _, _, _ :: _, [] => False
  | lo, hi, .node k i ks :: r, (A, c) :: s => ∃ l1 h1, lo ≤ l1 ∧ l1 ≤ h1 ∧ Avoid gb l1 h1 ∧ OwnT w l1 h1 (.node k i ks) A c ∧ OwnL w gb h1 hi r s
end
theorem ownT_eq {w : World} {lo hi : Nat} {t : Tr} {A : Option Addr} {c : Nat} : OwnT w lo hi t A c ↔ ∃ cs : List (Option Addr × Nat), cs.length = t.ks.length ∧ w.ownsRow lo 24 3 (.slice A t.ks.length c) t.ks.length (rowC t.ks cs) ∧ (∀ g, (Value.slice A t.ks.length c).ownBlock = some g → g < hi) ∧ OwnL w (Value.slice A t.ks.length c).ownBlock lo hi t.ks cs := by
  cases t; simp [OwnT, Tr.ks]
theorem ownL_cons {w : World} {gb : Option Nat} {lo hi : Nat} {t : Tr} {r : List Tr} {A : Option Addr} {c : Nat} {s : List (Option Addr × Nat)} :
    OwnL w gb lo hi (t :: r) ((A, c) :: s) ↔ ∃ l1 h1, lo ≤ l1 ∧ l1 ≤ h1 ∧ Avoid gb l1 h1 ∧ OwnT w l1 h1 t A c ∧ OwnL w gb h1 hi r s := by cases t; simp [OwnL]
theorem OwnL.le {w : World} {gb : Option Nat} : ∀ {l : List Tr} {s : List (Option Addr × Nat)} {lo hi : Nat}, OwnL w gb lo hi l s → lo ≤ hi
  | [], _, _, _, h => by simpa [OwnL] using h
  | t :: r, (A, c) :: s, lo, hi, h => by
    obtain ⟨l1, h1, a, b, _, _, h'⟩ := ownL_cons.1 h
    have := OwnL.le h'
    omega
  | _ :: _, [], _, _, h => by simp [OwnL] at h
theorem OwnT.le {w : World} {lo hi : Nat} {t : Tr} {A : Option Addr} {c : Nat} (h : OwnT w lo hi t A c) : lo ≤ hi := by
  obtain ⟨cs, _, _, _, h'⟩ := ownT_eq.1 h; exact h'.le
theorem OwnL.snoc {w : World} {gb : Option Nat} : ∀ {l : List Tr} {s : List (Option Addr × Nat)} {lo mid hi : Nat} {t : Tr} {A : Option Addr} {c : Nat}, s.length = l.length → OwnL w gb lo mid l s → mid ≤ hi → Avoid gb mid hi → OwnT w mid hi t A c → OwnL w gb lo hi (l ++ [t]) (s ++ [(A, c)])
  | [], [], lo, mid, hi, t, A, c, _, h, h1, h2, h3 => by
    have : lo ≤ mid := by simpa [OwnL] using h
    exact ownL_cons.2 ⟨mid, hi, this, h1, h2, h3, by simp [OwnL]⟩
  | x :: r, (B, d) :: s, lo, mid, hi, t, A, c, hl, h, h1, h2, h3 => by
    obtain ⟨l1, h1', a, b, e, f, h'⟩ := ownL_cons.1 h
    exact ownL_cons.2 ⟨l1, h1', a, b, e, f, OwnL.snoc (by simpa using hl) h' h1 h2 h3⟩
theorem ownsRow_same {w w' : World} {lo hi : Nat} {e : TypeId} {size : Nat} {v : Value} {n : Nat} {xs : List Value} (h : w.ownsRow lo e size v n xs) (hs : SameIn lo hi w w') (hg : ∀ g, v.ownBlock = some g → g < hi) : w'.ownsRow lo e size v n xs := by
  obtain ⟨h1, h2⟩ := h
  refine ⟨h1, ?_⟩
  rcases h2 with h2 | ⟨g, cap, cur, rfl, hb, hc, h3⟩
  · exact .inl h2
  · exact .inr ⟨g, cap, cur, rfl, hb, (hs g hb (hg g rfl)).trans hc, h3⟩
theorem OwnT.same {w w' : World} (t : Tr) : ∀ {lo hi : Nat} {A : Option Addr} {c : Nat}, SameIn lo hi w w' → OwnT w lo hi t A c → OwnT w' lo hi t A c := by
  induction t using Tr.ind with
  | h t ih =>
    intro lo hi A c hs h
    obtain ⟨cs, h1, h2, h3, h4⟩ := ownT_eq.1 h
    refine ownT_eq.2 ⟨cs, h1, ownsRow_same h2 hs h3, h3, ?_⟩
    have hl : ∀ (l : List Tr) (s : List (Option Addr × Nat)) (lo' : Nat), (∀ q, q ∈ l → q ∈ t.ks) → lo ≤ lo' → OwnL w (Value.slice A t.ks.length c).ownBlock lo' hi l s → OwnL w' (Value.slice A t.ks.length c).ownBlock lo' hi l s := by
      intro l
      induction l with
      | nil => intro s lo' _ _ h; simpa [OwnL] using h
      | cons x r ihr =>
        intro s lo' hm hle h
        match s, h with
        | (B, d) :: s, h =>
          obtain ⟨l1, h1', a, b, e, f, h'⟩ := ownL_cons.1 h
          have := h'.le
          exact ownL_cons.2 ⟨l1, h1', a, b, e, ih x (hm x (by simp)) (hs.mono (by omega) (by omega)) f, ihr s h1' (fun q hq => hm q (by simp [hq])) (by omega) h'⟩
        | [], h => simp [OwnL] at h
    exact hl t.ks cs lo (fun q hq => hq) (Nat.le_refl _) h4
/-- the list goes along with another block for the row -/
theorem OwnL.same {w w' : World} {gb gb' : Option Nat} : ∀ (l : List Tr) (s : List (Option Addr × Nat)) {lo hi : Nat}, (∀ b, lo ≤ b → b < hi → gb ≠ some b → w'.heap[b]? = w.heap[b]?) → (∀ l1 h1, lo ≤ l1 → h1 ≤ hi → Avoid gb l1 h1 → Avoid gb' l1 h1) → OwnL w gb lo hi l s → OwnL w' gb' lo hi l s
  | [], _, lo, hi, _, _, h => by simpa [OwnL] using h
  | x :: r, (B, d) :: s, lo, hi, hs, ha, h => by
    obtain ⟨l1, h1', a, b, e, f, h'⟩ := ownL_cons.1 h
    have := h'.le
    exact ownL_cons.2 ⟨l1, h1', a, b, ha _ _ a this e, OwnT.same x (fun k k1 k2 => hs k (by omega) (by omega) (fun eg => e k eg ⟨k1, k2⟩)) f, OwnL.same r s (fun k k1 k2 => hs k (by omega) k2) (fun p q hp hq => ha p q (by omega) hq) h'⟩
  | _ :: _, [], _, _, _, _, h => by simp [OwnL] at h
theorem OwnL.widen {w : World} {gb : Option Nat} : ∀ {l : List Tr} {s : List (Option Addr × Nat)} {lo hi hi' : Nat}, OwnL w gb lo hi l s → hi ≤ hi' → OwnL w gb lo hi' l s
  | [], _, lo, hi, hi', h, hh => by have : lo ≤ hi := by simpa [OwnL] using h
                                    simp [OwnL]; omega
  | x :: r, (B, d) :: s, lo, hi, hi', h, hh => by
    obtain ⟨l1, h1', a, b, e, f, h'⟩ := ownL_cons.1 h
    exact ownL_cons.2 ⟨l1, h1', a, b, e, f, OwnL.widen h' hh⟩
  | _ :: _, [], _, _, _, h, _ => by simp [OwnL] at h
theorem OwnL.lower {w : World} {gb : Option Nat} : ∀ {l : List Tr} {s : List (Option Addr × Nat)} {lo lo' hi : Nat}, OwnL w gb lo hi l s → lo' ≤ lo → OwnL w gb lo' hi l s
  | [], _, lo, lo', hi, h, hh => by have : lo ≤ hi := by simpa [OwnL] using h
                                    simp [OwnL]; omega
  | x :: r, (B, d) :: s, lo, lo', hi, h, hh => by
    obtain ⟨l1, h1', a, b, e, f, h'⟩ := ownL_cons.1 h
    exact ownL_cons.2 ⟨l1, h1', by omega, b, e, f, h'⟩
  | _ :: _, [], _, _, _, h, _ => by simp [OwnL] at h
theorem OwnT.widen {w : World} {lo hi hi' : Nat} {t : Tr} {A : Option Addr} {c : Nat} (h : OwnT w lo hi t A c) (hh : hi ≤ hi') : OwnT w lo hi' t A c := by
  obtain ⟨cs, h1, h2, h3, h4⟩ := ownT_eq.1 h
  exact ownT_eq.2 ⟨cs, h1, h2, fun g hg => Nat.lt_of_lt_of_le (h3 g hg) hh, h4.widen hh⟩
theorem OwnT.lower {w : World} {lo lo' hi : Nat} {t : Tr} {A : Option Addr} {c : Nat} (h : OwnT w lo hi t A c) (hh : lo' ≤ lo) : OwnT w lo' hi t A c := by
  obtain ⟨cs, h1, h2, h3, h4⟩ := ownT_eq.1 h
  refine ownT_eq.2 ⟨cs, h1, ?_, h3, h4.lower hh⟩
  obtain ⟨e1, e2⟩ := h2
  refine ⟨e1, ?_⟩
  rcases e2 with e2 | ⟨g, cap, cur, e, hb, h⟩
  · exact .inl e2
  · exact .inr ⟨g, cap, cur, e, by omega, h⟩
mutual
/-- every list of kids is short enough for memory -/
def Tr.fit : Tr → Prop
  | .node _ _ ks => Cap ks.length ∧ fitL ks
def fitL : List Tr → Prop
  | [] => True
  | t :: r => t.fit ∧ fitL r
end
theorem fit_eq (t : Tr) : t.fit ↔ Cap t.ks.length ∧ ∀ q, q ∈ t.ks → q.fit := by
  have hl : ∀ l : List Tr, fitL l ↔ ∀ q, q ∈ l → q.fit := by
    intro l
    induction l with
    | nil => simp [fitL]
    | cons x r ih => simp [fitL, ih]
  cases t; simp [Tr.fit, Tr.ks, hl]
theorem IsT.fit {w : World} {B : Nat} (t : Tr) : ∀ {A : Option Addr} {c : Nat}, IsT w B t A c → t.fit := by
  induction t using Tr.ind with
  | h t ih =>
    intro A c h
    refine (fit_eq t).2 ⟨h.len.2, fun q hq => ?_⟩
    obtain ⟨m, hm, rfl⟩ := List.getElem_of_mem hq
    obtain ⟨b, o, A', c', _, _, _, _, _, hk⟩ := h.kid m hm
    exact ih _ hq hk
theorem OwnL.get {w : World} {gb : Option Nat} : ∀ {l : List Tr} {s : List (Option Addr × Nat)} {lo hi : Nat}, OwnL w gb lo hi l s → (hs : s.length = l.length) → ∀ m (h : m < l.length), ∃ l1 h1, lo ≤ l1 ∧ l1 ≤ h1 ∧ h1 ≤ hi ∧ Avoid gb l1 h1 ∧ OwnT w l1 h1 l[m] (s[m]'(by omega)).1 (s[m]'(by omega)).2
  | x :: r, (B, d) :: s, lo, hi, h, hs, 0, _ => by
    obtain ⟨l1, h1', a, b, e, f, h'⟩ := ownL_cons.1 h
    exact ⟨l1, h1', a, b, h'.le, e, f⟩
  | x :: r, (B, d) :: s, lo, hi, h, hs, m + 1, hm => by
    obtain ⟨l1, h1', a, b, e, f, h'⟩ := ownL_cons.1 h
    obtain ⟨l2, h2, a2, b2, c2, e2, f2⟩ := OwnL.get h' (by simpa using hs) m (by simpa using hm)
    exact ⟨l2, h2, by omega, b2, c2, e2, f2⟩
theorem OwnT.isT {w : World} (t : Tr) : ∀ {lo hi B : Nat} {A : Option Addr} {c : Nat}, OwnT w lo hi t A c → hi ≤ B → t.fit → IsT w B t A c := by
  induction t using Tr.ind with
  | h t ih =>
    intro lo hi B A c h hB hf
    obtain ⟨cs, h1, h2, h3, h4⟩ := ownT_eq.1 h
    obtain ⟨f1, f2⟩ := (fit_eq t).1 hf
    have hn : t.ks.length ≤ c := by
      rcases h2.2 with ⟨e, hn⟩ | ⟨g, cap, cur, e, _, _, hc, _⟩
      · omega
      · cases e; exact hc
    refine IsT.mk hn f1 fun m hm => ?_
    obtain ⟨l1, h1', a, b, c', e, f⟩ := h4.get h1 m hm
    obtain ⟨r0, r1, r2⟩ := rowC_get t.ks cs m hm h1
    rcases h2.2 with ⟨e, hn⟩ | ⟨g, cap, cur, e', hb, _, hc, _⟩
    · omega
    · cases e'
      have q0 := h2.cellAt (m * 3) (by omega)
      have q1 := h2.cellAt (m * 3 + 1) (by omega)
      have q2 := h2.cellAt (m * 3 + 2) (by omega)
      refine ⟨g, 0, _, _, rfl, Nat.lt_of_lt_of_le (h3 g rfl) hB, ?_, ?_, ?_, ih _ (List.getElem_mem hm) f (by omega) (f2 _ (List.getElem_mem hm))⟩
      · rw [Nat.zero_add, q0, r0]
      · rw [Nat.zero_add, q1, r1]
      · rw [Nat.zero_add, q2, r2]
end Go.Proofs.YtgnfbhemkombaaaDoor
