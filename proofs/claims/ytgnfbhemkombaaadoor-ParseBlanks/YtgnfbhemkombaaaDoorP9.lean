/- The reader of package parse, in memory. -/
import Derived.Test.YtgnfbhemkombaaaDoorL8
import Derived.Test.YtgnfbhemkombaaaDoorT10
import Derived.StillTailTactics
namespace Go.Proofs.YtgnfbhemkombaaaDoor
open Go.RowKit
set_option linter.unusedVariables false
/-- nothing that there was has turned but block b -/
structure KeepR (b : Nat) (w w' : World) : Prop where
  os : w'.os = w.os
  tape : w'.tape = w.tape
  output : w'.output = w.output
  size : w.heap.size ≤ w'.heap.size
  block : ∀ k, k < w.heap.size → k ≠ b → w'.heap[k]? = w.heap[k]?
theorem KeepR.refl (b : Nat) (w : World) : KeepR b w w := ⟨rfl, rfl, rfl, Nat.le_refl _, fun _ _ _ => rfl⟩
theorem KeepR.trans {b : Nat} {x y z : World} (h : KeepR b x y) (k : KeepR b y z) : KeepR b x z :=
  ⟨k.os.trans h.os, k.tape.trans h.tape, k.output.trans h.output, Nat.le_trans h.size k.size, fun i h1 h2 => (k.block i (Nat.lt_of_lt_of_le h1 h.size) h2).trans (h.block i h1 h2)⟩
theorem KeepR.of_below {b : Nat} {w w' : World} (h : Below w.heap.size w w') : KeepR b w w' := ⟨h.os, h.tape, h.output, h.size, fun k h1 _ => h.block k h1⟩
theorem size_set (w : World) (p : Addr) (v : Value) : (w.setCell p v).heap.size = w.heap.size := by
  have h1 := ((Below.refl 0 w).setCell (p := p) (Nat.zero_le _) v).size
  unfold World.setCell
  split <;> simp
theorem KeepR.set (b o : Nat) (w : World) (v : Value) : KeepR b w (w.setCell ⟨b, o, none⟩ v) := by
  have h := (Below.refl 0 w).setCell (p := ⟨b, o, none⟩) (Nat.zero_le _) v
  exact ⟨h.os, h.tape, h.output, h.size, fun k _ hk => heap_setCell_other _ _ _ _ hk⟩
theorem KeepR.below {b B : Nat} {w w' : World} (h : KeepR b w w') (h1 : B ≤ b) (h2 : B ≤ w.heap.size) : Below B w w' :=
  ⟨h.os, h.tape, h.output, h.size, fun k hk => h.block k (by omega) (by omega)⟩
/-- the reader: its tokens l, of which rest are left; the text's length, how many nodes were begun, how deep -/
structure Rdr (w : World) (b : Nat) (A : Option Addr) (c : Nat) (l rest : List Tok) (sl z m : Nat) : Prop where
  blk : w.heap[b]? = some (.cells #[.slice A l.length c, .int .i64 ((l.length - rest.length : Nat) : Int), .int .i64 (sl : Int), .int .i64 (z : Int), .int .i64 (m : Int)] 101 (0, 0))
  toks : IsToks w A c l
  ne : ∀ g, A = some ⟨g, 0, none⟩ → g ≠ b
  suf : rest <:+ l
theorem Rdr.cells {w : World} {b : Nat} {A : Option Addr} {c : Nat} {l rest : List Tok} {sl z m : Nat} (h : Rdr w b A c l rest sl z m) :
    w.cell? ⟨b, 0, none⟩ = some (.slice A l.length c) ∧ w.cell? ⟨b, 1, none⟩ = some (.int .i64 ((l.length - rest.length : Nat) : Int)) ∧ w.cell? ⟨b, 2, none⟩ = some (.int .i64 (sl : Int)) ∧ w.cell? ⟨b, 3, none⟩ = some (.int .i64 (z : Int)) ∧ w.cell? ⟨b, 4, none⟩ = some (.int .i64 (m : Int)) := by
  refine ⟨?_, ?_, ?_, ?_, ?_⟩ <;> (unfold World.cell?; rw [h.blk]; rfl)
theorem Rdr.frozen {w : World} {b : Nat} {A : Option Addr} {c : Nat} {l rest : List Tok} {sl z m : Nat} (h : Rdr w b A c l rest sl z m) (j : Nat) : w.frozen? ⟨b, j, none⟩ = false := Go.Joins.unfrozen_of_block h.blk j
theorem Rdr.lt {w : World} {b : Nat} {A : Option Addr} {c : Nat} {l rest : List Tok} {sl z m : Nat} (h : Rdr w b A c l rest sl z m) : b < w.heap.size := (Array.getElem?_eq_some_iff.1 h.blk).1
theorem Rdr.keep {w w' : World} {b : Nat} {A : Option Addr} {c : Nat} {l rest : List Tok} {sl z m : Nat} (h : Rdr w b A c l rest sl z m) (hb : Below w.heap.size w w') : Rdr w' b A c l rest sl z m :=
  ⟨(hb.block _ h.lt).trans h.blk, h.toks.keep hb, h.ne, h.suf⟩
theorem toks_keepR {w w' : World} {b : Nat} {A : Option Addr} {c : Nat} {l : List Tok} (h : IsToks w A c l) (ne : ∀ g, A = some ⟨g, 0, none⟩ → g ≠ b) (hk : KeepR b w w') : IsToks w' A c l := fun m hm => by
  obtain ⟨g, e, h1, h2, h3, h4, h5⟩ := h m hm
  have q := hk.block g h2 (ne g e)
  exact ⟨g, e, h1, Nat.lt_of_lt_of_le h2 hk.size, (World.cell?_of_block (w := w) (a := ⟨g, m * 3, none⟩) q).trans h3, (World.cell?_of_block (w := w) (a := ⟨g, m * 3 + 1, none⟩) q).trans h4, (World.cell?_of_block (w := w) (a := ⟨g, m * 3 + 2, none⟩) q).trans h5⟩
theorem Rdr.set1 {w : World} {b : Nat} {A : Option Addr} {c : Nat} {l rest : List Tok} {sl z m : Nat} {t : Tok} (h : Rdr w b A c l (t :: rest) sl z m) (x : Int) (hx : x = ((l.length - (t :: rest).length : Nat) : Int) + 1) : Rdr (w.setCell ⟨b, 1, none⟩ (.int .i64 x)) b A c l rest sl z m := by
  have hs := h.suf.length_le
  refine ⟨?_, toks_keepR h.toks h.ne (KeepR.set b 1 w _), h.ne, (List.suffix_cons t rest).trans h.suf⟩
  rw [Go.Joins.block_setCell h.blk]
  simp only [List.length_cons] at hs hx
  subst hx
  congr 1
  simp
  omega
theorem Rdr.set34 {w : World} {b : Nat} {A : Option Addr} {c : Nat} {l rest : List Tok} {sl z m : Nat} (h : Rdr w b A c l rest sl z m) (z' m' : Nat) : Rdr ((w.setCell ⟨b, 3, none⟩ (.int .i64 (z' : Int))).setCell ⟨b, 4, none⟩ (.int .i64 (m' : Int))) b A c l rest sl z' m' := by
  have h1 := Go.Joins.block_setCell (i := 3) h.blk (.int .i64 (z' : Int))
  refine ⟨?_, toks_keepR (toks_keepR h.toks h.ne (KeepR.set b 3 w _)) h.ne (KeepR.set b 4 _ _), h.ne, h.suf⟩
  rw [Go.Joins.block_setCell h1]
  rfl
end Go.Proofs.YtgnfbhemkombaaaDoor
