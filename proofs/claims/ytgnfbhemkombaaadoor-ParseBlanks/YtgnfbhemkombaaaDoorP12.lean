/- arguments of package parse: the terms in brackets. -/
import Derived.Test.YtgnfbhemkombaaaDoorP11
import Derived.Test.YtgnfbhemkombaaaDoorT11
import Derived.Test.YtgnfbhemkombaaaDoorE16
import Derived.Deep.RegionHeld3
namespace Go.Proofs.YtgnfbhemkombaaaDoor
open Go.RowKit
set_option linter.unusedVariables false
theorem exc_mono {z m z' m' : Nat} (h : excN z' m' = 0) (hz : z ≤ z') (hm : m ≤ m') : excN z m = 0 := by
  unfold excN at h ⊢
  by_cases h1 : 1000 < z'
  · rw [if_pos h1] at h; cases h
  · rw [if_neg h1] at h
    by_cases h2 : 100 < m'
    · rw [if_pos h2] at h; cases h
    · rw [if_neg (by omega), if_neg (by omega)]
/-- an expression's value; the tree itself, unless there is too much -/
def ExprV (W : World) (lo z m : Nat) (t : Tr) (v : Value) : Prop :=
  ∃ x y A n c, v = .agg #[.int .i64 x, .int .i64 y, .slice A n c] ∧ (excN z m = 0 → x = t.k ∧ y = t.i ∧ n = t.ks.length ∧ OwnT W lo W.heap.size t A c)
/-- what reading leaves -/
def ReadP (b : Nat) (A : Option Addr) (c : Nat) (l : List Tok) (sl z m d : Nat) (w : World) (p : PR) (e : Ending) (w' : World) : Prop :=
  KeepR b w w' ∧ match p with
    | .ok t r => Rdr w' b A c l r sl (z + t.sz) (max m (d + dpL t.ks)) ∧ ∃ v, e = .returned v ∧ ExprV w' w.heap.size (z + t.sz) (max m (d + dpL t.ks)) t v
    | .bad r => e = raised 32 (placeN sl r)
/-- what arguments leaves -/
def ArgsP (b : Nat) (A : Option Addr) (c : Nat) (l : List Tok) (sl z m d : Nat) (w : World) (p : PR) (e : Ending) (w' : World) : Prop :=
  KeepR b w w' ∧ match p with
    | .ok t r => Rdr w' b A c l r sl (z + szL t.ks) (max m (d + dpL t.ks)) ∧ ∃ A' n' c', e = .returned (.slice A' n' c') ∧ (excN (z + szL t.ks) (max m (d + dpL t.ks)) = 0 → n' = t.ks.length ∧ OwnT w' w.heap.size w'.heap.size t A' c')
    | .bad r => e = raised 32 (placeN sl r)
def TermC (f : Nat) : Prop := ∀ (b : Nat) (A : Option Addr) (c : Nat) (l rest : List Tok) (sl z m d : Nat) (w : World), 2 * rest.length < f → l.length ≤ 8000 → d + 2 * rest.length ≤ 40000 → z + rest.length ≤ 20000 → Rdr w b A c l rest sl z m →
  Calls Tryd.prog 55 #[.pointer (some ⟨b, 0, none⟩), .int .i64 (d : Int)] w (ReadP b A c l sl z m d w (termP f rest))
theorem kids_step {wr w2 w4 : World} {lo n c' g : Nat} {A' A2 : Option Addr} {c2 : Nat} {acc : List Tr} {cs : List (Option Addr × Nat)} {q : Tr} {o : Obj} (h1 : cs.length = acc.length) (hk : OwnL wr (Value.slice A' n c').ownBlock lo wr.heap.size acc cs) (same : ∀ k, lo ≤ k → k < wr.heap.size → w2.heap[k]? = wr.heap[k]?)
    (hq : OwnT w2 wr.heap.size w2.heap.size q A2 c2) (hz : wr.heap.size ≤ w2.heap.size) (hg : (w2.alloc o).grownBy w4 (Value.slice A' n c').ownBlock) (hob : ∀ g, (Value.slice A' n c').ownBlock = some g → lo ≤ g ∧ g < wr.heap.size) (hat : (Value.slice A' n c').ownBlock = some g ∨ g = w2.heap.size + 1) :
    OwnL w4 (some g) lo w4.heap.size (acc ++ [q]) (cs ++ [(A2, c2)]) := by
  have hsz := hg.size
  simp only [World.size_alloc] at hsz
  have old : ∀ k, k < w2.heap.size → (Value.slice A' n c').ownBlock ≠ some k → w4.heap[k]? = w2.heap[k]? := fun k h2 h3 => (hg.block k (by simp; omega) (fun e => h3 e.symm)).trans (Below.heap_alloc _ _ _ h2)
  have k1 : OwnL w4 (some g) lo wr.heap.size acc cs := by
    refine OwnL.same _ _ (fun k a b ne => (old k (by omega) ne).trans (same k a b)) (fun l1 h1 hl hh ha => ?_) hk
    intro g' e hin
    cases e
    rcases hat with e | e
    · exact ha _ e hin
    · omega
  have k2 : OwnT w4 wr.heap.size w2.heap.size q A2 c2 := OwnT.same _ (fun k a b => old k b (fun e => by have := hob k e; omega)) hq
  refine (OwnL.snoc h1 k1 hz ?_ k2).widen (by omega)
  intro g' e hin
  cases e
  rcases hat with e | e
  · have := hob _ e; omega
  · omega
/-- what is left to do behind some arguments -/
def contP (T : List Tok → PR) (k n : Nat) (acc : List Tr) (r : List Tok) : PR :=
  if stands 41 r then .ok (.node k n acc) r.tail else if 4 ≤ acc.length ∨ stands 44 r = false then .bad r else argsL T k n (4 - acc.length) acc r.tail
theorem argsL_cont (T : List Tok → PR) (k n c : Nat) (acc : List Tr) (r : List Tok) (hc : c + 1 = 4 - acc.length) : argsL T k n (c + 1) acc r = match T r with | .bad r' => .bad r' | .ok t r1 => contP T k n (acc ++ [t]) r1 := by
  simp only [argsL]
  cases T r with
  | bad r' => rfl
  | ok t r1 =>
    simp only [contP, List.length_append, List.length_cons, List.length_nil]
    have e : 4 - (acc.length + (0 + 1)) = c := by omega
    rw [e]
    by_cases h1 : stands 41 r1 = true
    · rw [if_pos h1, if_pos h1]
    · rw [if_neg h1, if_neg h1]
      by_cases h0 : c = 0 ∨ stands 44 r1 = false
      · rw [if_pos h0, if_pos (h0.imp (fun x => by omega) id)]
      · rw [if_neg h0, if_neg (fun x => h0 (x.imp (fun x => by omega) id))]
theorem contP_comma {T : List Tok → PR} {k n : Nat} {acc : List Tr} {r : List Tok} (h1 : acc.length < 4) (h2 : stands 44 r = true) : contP T k n acc r = match T r.tail with | .bad r' => .bad r' | .ok t r1 => contP T k n (acc ++ [t]) r1 := by
  have h3 : stands 41 r = false := by
    obtain ⟨t, r1, rfl, h4, h5⟩ := stands_cons h2
    simp [stands, h5]
  unfold contP
  rw [if_neg (by simp [h3]), if_neg (by simp [h2]; omega)]
  have := argsL_cont T k n (4 - acc.length - 1) acc r.tail (by omega)
  rw [show 4 - acc.length - 1 + 1 = 4 - acc.length by omega] at this
  exact this
theorem contP_end {T : List Tok → PR} {k n : Nat} {acc : List Tr} {r : List Tok} (h : ¬ (acc.length < 4 ∧ stands 44 r = true)) : contP T k n acc r = if stands 41 r then .ok (.node k n acc) r.tail else .bad r := by
  unfold contP
  by_cases h1 : stands 41 r = true
  · rw [if_pos h1, if_pos h1]
  · rw [if_neg h1, if_neg h1, if_pos]
    by_cases h2 : 4 ≤ acc.length
    · exact .inl h2
    · right
      cases hs : stands 44 r with
      | false => rfl
      | true => exact absurd ⟨by omega, hs⟩ h
/-- some arguments are read -/
structure ArgI (w wr : World) (b : Nat) (A : Option Addr) (c : Nat) (l : List Tok) (sl z m d : Nat) (acc : List Tr) (r : List Tok) (A' : Option Addr) (c' : Nat) : Prop where
  keep : KeepR b w wr
  rdr : Rdr wr b A c l r sl (z + szL acc) (max m (d + dpL acc))
  own : ∃ xs, wr.ownsRow w.heap.size 24 3 (.slice A' acc.length c') acc.length xs ∧ (excN (z + szL acc) (max m (d + dpL acc)) = 0 → ∃ cs, cs.length = acc.length ∧ xs = rowC acc cs ∧ OwnL wr (Value.slice A' acc.length c').ownBlock w.heap.size wr.heap.size acc cs)
theorem Rdr.grown {X Y : World} {b : Nat} {A : Option Addr} {c : Nat} {l rest : List Tok} {sl z m : Nat} {ob : Option Nat} {B : Nat} (h : Rdr X b A c l rest sl z m) (hg : X.grownBy Y ob) (hB : b < B) (hA : ∀ g, A = some ⟨g, 0, none⟩ → l ≠ [] → g < B) (ho : ∀ k, ob = some k → B ≤ k) : Rdr Y b A c l rest sl z m := by
  refine ⟨(hg.block b h.lt (fun e => by have := ho b e.symm; omega)).trans h.blk, fun i hi => ?_, h.ne, h.suf⟩
  obtain ⟨g, e, h1, h2, h3, h4, h5⟩ := h.toks i hi
  have hgB := hA g e (fun e => by rw [e] at hi; simp at hi)
  have q := hg.block g h2 (fun e => by have := ho g e.symm; omega)
  exact ⟨g, e, h1, Nat.lt_of_lt_of_le h2 hg.size, (World.cell?_of_block (w := X) (a := ⟨g, i * 3, none⟩) q).trans h3, (World.cell?_of_block (w := X) (a := ⟨g, i * 3 + 1, none⟩) q).trans h4, (World.cell?_of_block (w := X) (a := ⟨g, i * 3 + 2, none⟩) q).trans h5⟩
theorem KeepR.grown {b B : Nat} {w X Y : World} {ob : Option Nat} (h : KeepR b w X) (hg : X.grownBy Y ob) (ho : ∀ k, ob = some k → w.heap.size ≤ k) : KeepR b w Y :=
  ⟨(show Y.os = _ from hg.os).trans h.os, (show Y.tape = _ from hg.tape).trans h.tape, (show Y.output = _ from hg.output).trans h.output, Nat.le_trans h.size hg.size, fun k h1 h2 => (hg.block k (Nat.lt_of_lt_of_le h1 h.size) (fun e => by have := ho k e.symm; omega)).trans (h.block k h1 h2)⟩
theorem dpL_snoc (acc : List Tr) (q : Tr) : dpL (acc ++ [q]) = max (dpL acc) q.dp := by rw [dpL_append]; simp [dpL]
theorem szL_snoc (acc : List Tr) (q : Tr) : szL (acc ++ [q]) = szL acc + q.sz := by rw [szL_append]; simp [szL]
theorem rowC_one (t : Tr) (A : Option Addr) (c : Nat) : rowC [t] [(A, c)] = [.int .i64 t.k, .int .i64 t.i, .slice A t.ks.length c] := rfl
/-- the first argument, laid into a list of its own -/
theorem ArgI.one {w w1 w2 : World} {b : Nat} {A : Option Addr} {c : Nat} {l : List Tok} {sl z m d : Nat} {q : Tr} {r : List Tok} {x y : Int} {A2 : Option Addr} {n2 c2 : Nat} (hk : KeepR b w w1) (hk2 : KeepR b w1 w2) (hr : Rdr w2 b A c l r sl (z + q.sz) (max m (d + 1 + dpL q.ks)))
    (hv : excN (z + q.sz) (max m (d + 1 + dpL q.ks)) = 0 → x = q.k ∧ y = q.i ∧ n2 = q.ks.length ∧ OwnT w2 w1.heap.size w2.heap.size q A2 c2) :
    ArgI w (w2.alloc (.cells #[.int .i64 x, .int .i64 y, .slice A2 n2 c2] 24)) b A c l sl z m d [q] r (some ⟨w2.heap.size, 0, none⟩) 1 := by
  have ha : Below w2.heap.size w2 (w2.alloc (.cells #[.int .i64 x, .int .i64 y, .slice A2 n2 c2] 24)) := (Below.refl _ _).alloc (Nat.le_refl _) _
  have es : szL [q] = q.sz := by simp [szL]
  have ed : d + dpL [q] = d + 1 + dpL q.ks := by have := dp_eq q; simp only [dpL]; omega
  have hs2 := hk2.size
  have hs1 := hk.size
  refine ⟨(hk.trans hk2).trans (KeepR.of_below ha), by rw [es, ed]; exact hr.keep ha, [.int .i64 x, .int .i64 y, .slice A2 n2 c2], ?_, fun he => ?_⟩
  · exact ⟨rfl, .inr ⟨w2.heap.size, 1, #[.int .i64 x, .int .i64 y, .slice A2 n2 c2], rfl, by omega, World.alloc_heap_new w2 _, Nat.le_refl _, by unfold maxLen; omega, rfl, rfl⟩⟩
  · rw [es, ed] at he
    obtain ⟨rfl, rfl, rfl, ho⟩ := hv he
    refine ⟨[(A2, c2)], rfl, rfl, ownL_cons.2 ⟨w1.heap.size, w2.heap.size, by omega, hs2, ?_, OwnT.same _ (SameIn.of_below ha (Nat.le_refl _)) ho, by simp [OwnL]⟩⟩
    intro g e hin
    simp [Value.ownBlock] at e
    omega
/-- one argument more, appended -/
theorem ArgI.more {w wr w1 w2 w4 : World} {b : Nat} {A : Option Addr} {c : Nat} {l : List Tok} {sl z m d : Nat} {acc : List Tr} {r r0 : List Tok} {A' : Option Addr} {c' : Nat} {q : Tr} {x y : Int} {A2 : Option Addr} {n2 c2 g cap : Nat} {xs : List Value} (hI : ArgI w wr b A c l sl z m d acc r0 A' c') (hb : b < w.heap.size) (hA : ∀ g, A = some ⟨g, 0, none⟩ → l ≠ [] → g < w.heap.size)
    (hxs : wr.ownsRow w.heap.size 24 3 (.slice A' acc.length c') acc.length xs ∧ (excN (z + szL acc) (max m (d + dpL acc)) = 0 → ∃ cs, cs.length = acc.length ∧ xs = rowC acc cs ∧ OwnL wr (Value.slice A' acc.length c').ownBlock w.heap.size wr.heap.size acc cs))
    (hk1 : KeepR b wr w1) (hk2 : KeepR b w1 w2) (hr : Rdr w2 b A c l r sl (z + szL acc + q.sz) (max (max m (d + dpL acc)) (d + 1 + dpL q.ks)))
    (hv : excN (z + szL acc + q.sz) (max (max m (d + dpL acc)) (d + 1 + dpL q.ks)) = 0 → x = q.k ∧ y = q.i ∧ n2 = q.ks.length ∧ OwnT w2 w1.heap.size w2.heap.size q A2 c2)
    (ho : w4.ownsRow w.heap.size 24 3 (.slice (some ⟨g, 0, none⟩) (acc.length + 1) cap) (acc.length + 1) (xs ++ [.int .i64 x, .int .i64 y, .slice A2 n2 c2]))
    (hg : (w2.alloc (.cells #[.int .i64 x, .int .i64 y, .slice A2 n2 c2] 24)).grownBy w4 (Value.slice A' acc.length c').ownBlock) (hat : (Value.slice A' acc.length c').ownBlock = some g ∨ g = w2.heap.size + 1) :
    ArgI w w4 b A c l sl z m d (acc ++ [q]) r (some ⟨g, 0, none⟩) cap := by
  have ha : Below w2.heap.size w2 (w2.alloc (.cells #[.int .i64 x, .int .i64 y, .slice A2 n2 c2] 24)) := (Below.refl _ _).alloc (Nat.le_refl _) _
  have es : z + szL (acc ++ [q]) = z + szL acc + q.sz := by rw [szL_snoc]; omega
  have ed : max m (d + dpL (acc ++ [q])) = max (max m (d + dpL acc)) (d + 1 + dpL q.ks) := by have := dp_eq q; rw [dpL_snoc]; omega
  have hob := hxs.1.lt
  have hs2 := hk2.size
  have hs1 := hI.keep.size
  have hs3 := hk1.size
  refine ⟨(((hI.keep.trans hk1).trans hk2).trans (KeepR.of_below ha)).grown (B := 0) hg (fun k e => (hob k e).1), ?_, _, by simpa using ho, fun he => ?_⟩
  · rw [es, ed]
    exact (hr.keep ha).grown hg hb hA (fun k e => (hob k e).1)
  · rw [es, ed] at he
    obtain ⟨rfl, rfl, rfl, hq⟩ := hv he
    obtain ⟨cs, h1, h2, h3⟩ := hxs.2 (exc_mono he (by omega) (by omega))
    subst h2
    refine ⟨cs ++ [(A2, c2)], by simp [h1], by rw [rowC_snoc _ _ _ _ _ h1], ?_⟩
    have same : ∀ k, w.heap.size ≤ k → k < wr.heap.size → w2.heap[k]? = wr.heap[k]? := fun k a b' => (hk2.block k (by omega) (by omega)).trans (hk1.block k b' (by omega))
    have := kids_step h1 h3 same (OwnT.lower hq hs3) (by omega) hg hob hat
    simpa [Value.ownBlock] using this
end Go.Proofs.YtgnfbhemkombaaaDoor
