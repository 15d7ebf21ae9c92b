/- cut of package parse. -/
import Derived.Test.YtgnfbhemkombaaaDoorP3
import Derived.Laws.OwnMore
import Derived.Deep.AppendLies
namespace Go.Proofs.YtgnfbhemkombaaaDoor
open Go.RowKit
set_option linter.unusedVariables false
/-- the cells of tokens -/
def tokC : List Tok → List Value
  | [] => []
  | t :: r => .int .i64 (t.k : Int) :: .int .i64 (t.n : Int) :: .int .i64 (t.p : Int) :: tokC r
theorem tokC_len (l : List Tok) : (tokC l).length = l.length * 3 := by
  induction l with
  | nil => rfl
  | cons t r ih => simp only [tokC, List.length_cons, ih]; omega
theorem tokC_snoc (l : List Tok) (t : Tok) : tokC (l ++ [t]) = tokC l ++ [.int .i64 (t.k : Int), .int .i64 (t.n : Int), .int .i64 (t.p : Int)] := by
  induction l with
  | nil => rfl
  | cons x r ih => simp only [tokC, List.cons_append, ih]
theorem tokC_get (l : List Tok) : ∀ (m : Nat) (h : m < l.length), (tokC l)[m * 3]? = some (.int .i64 (l[m].k : Int)) ∧ (tokC l)[m * 3 + 1]? = some (.int .i64 (l[m].n : Int)) ∧ (tokC l)[m * 3 + 2]? = some (.int .i64 (l[m].p : Int)) := by
  induction l with
  | nil => intro m h; simp at h
  | cons t r ih =>
    intro m h
    cases m with
    | zero => simp [tokC]
    | succ m =>
      have := ih m (by simpa using h)
      simp only [tokC, List.getElem_cons_succ]
      rw [show (m + 1) * 3 = m * 3 + 3 by omega]
      exact this
theorem infoT : (Tryd.prog.info? 37).map (fun i => (i.zero, i.size, i.bytes)) = some (some (.agg #[.int .i64 0, .int .i64 0, .int .i64 0]), 3, 24) := by kernel_rfl
/-- what cut leaves -/
def CutPost (w : World) (r : LexR) (e : Ending) (w' : World) : Prop :=
  Below w.heap.size w w' ∧ match r with
    | .ok l => ∃ v, e = .returned v ∧ w'.ownsRow w.heap.size 37 3 v l.length (tokC l)
    | .bad c i => e = raised c i
structure CutI (w wr : World) (s : ByteArray) (v : Value) (acc : List Tok) (p e : Nat) : Prop where
  own : wr.ownsRow (w.heap.size + 1) 37 3 v acc.length (tokC acc)
  it : wr.heap[w.heap.size]? = some (.stringIter s p)
  below : Below w.heap.size w wr
  lex : lexN 0 (bytesN s) = (lexN (max p e) ((bytesN s).drop (max p e))).pre acc
  asc : ∀ j (h : j < s.size), p ≤ j → j < e → (s[j]'h).toNat < 128
  le1 : p ≤ s.size
  le2 : e ≤ s.size
  len : acc.length ≤ max p e
theorem drop_get (s : ByteArray) (p : Nat) (h : p < s.size) : (bytesN s).drop p = s[p].toNat :: (bytesN s).drop (p + 1) := by
  rw [List.drop_eq_getElem_cons (by rw [bytesN_len]; exact h), bytesN_get s p h]
theorem stepN_high {c : Nat} (h : 128 ≤ c) (r : List Nat) : stepN c r = .err 30 := by
  unfold stepN letterN
  rw [if_neg (by omega), if_neg (by simp [isSignT]; omega), if_neg (by omega), if_neg (by omega), if_neg (by omega)]
theorem stepN_blank {c : Nat} (h : c = 32 ∨ c = 9) (r : List Nat) : stepN c r = .blank := by unfold stepN; rw [if_pos h]
theorem stepN_not_blank {c : Nat} (h : ¬ (c = 32 ∨ c = 9)) (r : List Nat) : stepN c r ≠ .blank := by
  unfold stepN
  rw [if_neg h]
  split
  · simp
  · split
    · simp
    · split <;> simp
theorem stepN_z {c k n z : Nat} {r : List Nat} (h : stepN c r = .tok k n z) : z ≤ r.length ∧ ∀ j (hj : j < z) (h2 : j < r.length), isDigN r[j] = true := by
  unfold stepN at h
  split at h
  · cases h
  · split at h
    · cases h; exact ⟨Nat.zero_le _, fun j hj => absurd hj (by omega)⟩
    · split at h
      · cases h
      · split at h
        · cases h
        · cases h
          exact ⟨digsN_le r, fun j hj h2 => digsN_dig r j hj h2⟩
theorem own_still {w w' : World} {base : Nat} {e : TypeId} {size : Nat} {v : Value} {n : Nat} {xs : List Value} (h : w.ownsRow base e size v n xs) (hb : Below w.heap.size w w') : w'.ownsRow base e size v n xs :=
  ⟨h.1, h.2.imp id (fun ⟨g, cap, cur, a, b, c, d⟩ => ⟨g, cap, cur, a, b, (hb.block g (Array.getElem?_eq_some_iff.1 c).1).trans c, d⟩)⟩
theorem own_lower {w : World} {base base' : Nat} {e : TypeId} {size : Nat} {v : Value} {n : Nat} {xs : List Value} (h : w.ownsRow base e size v n xs) (hb : base' ≤ base) : w.ownsRow base' e size v n xs :=
  ⟨h.1, h.2.imp id (fun ⟨g, cap, cur, a, b, c, d⟩ => ⟨g, cap, cur, a, by omega, c, d⟩)⟩
theorem new3b (w : World) (x y z : Value) (t : TypeId) (j : Nat) (u : Value) (h : [x, y, z][j]? = some u) : (w.alloc (.cells #[x, y, z] t)).cell? ((⟨w.heap.size, 0, none⟩ : Addr).add j) = some u := by
  have e : (w.alloc (.cells #[x, y, z] t)).heap[w.heap.size]? = some (.cells #[x, y, z] t (0, 0)) := by
    show (w.heap.push _)[w.heap.size]? = _
    rw [Array.getElem?_push]
    simp
  have e2 : (⟨w.heap.size, 0, none⟩ : Addr).add j = ⟨w.heap.size, j, none⟩ := by unfold Addr.add; split <;> simp_all
  rw [e2]
  unfold World.cell?
  rw [e]
  simpa using h
theorem CutI.next {w wr : World} {s : ByteArray} {v : Value} {acc : List Tok} {p e q : Nat} (h : CutI w wr s v acc p e) : (wr.iterAt w.heap.size s q).ownsRow (w.heap.size + 1) 37 3 v acc.length (tokC acc) ∧ (wr.iterAt w.heap.size s q).heap[w.heap.size]? = some (.stringIter s q) ∧ Below w.heap.size w (wr.iterAt w.heap.size s q) :=
  ⟨ownsRow_iterAt h.own (by omega) s q, Lib.iterAt_heap wr w.heap.size s p q h.it, Lib.below_iterAt h.below (Nat.le_refl _) s q⟩
theorem CutI.skip {w wr : World} {s : ByteArray} {v : Value} {acc : List Tok} {p e : Nat} (h : CutI w wr s v acc p e) (hp : p < e) : CutI w (wr.iterAt w.heap.size s (p + 1)) s v acc (p + 1) e := by
  obtain ⟨a, b, c⟩ := h.next (q := p + 1)
  have := h.le2
  have hl := h.len
  have hx := h.lex
  rw [show max p e = max (p + 1) e by omega] at hl hx
  exact ⟨a, b, c, hx, fun j h1 h2 h3 => h.asc j h1 (by omega) h3, by omega, h.le2, hl⟩
theorem CutI.blank {w wr : World} {s : ByteArray} {v : Value} {acc : List Tok} {p e : Nat} (h : CutI w wr s v acc p e) (he : e ≤ p) (hp : p < s.size) (hc : s[p].toNat = 32 ∨ s[p].toNat = 9) : CutI w (wr.iterAt w.heap.size s (p + 1)) s v acc (p + 1) e := by
  obtain ⟨a, b, c⟩ := h.next (q := p + 1)
  have hl := h.len
  have hx := h.lex
  rw [show max p e = p by omega] at hl hx
  refine ⟨a, b, c, ?_, fun j h1 h2 h3 => absurd h3 (by omega), by omega, h.le2, by omega⟩
  rw [hx, drop_get s p hp, lexN_blank (stepN_blank hc _), show max (p + 1) e = p + 1 by omega]
theorem CutI.err {w wr : World} {s : ByteArray} {v : Value} {acc : List Tok} {p e c : Nat} (h : CutI w wr s v acc p e) (he : e ≤ p) (hp : p < s.size) (hc : stepN s[p].toNat ((bytesN s).drop (p + 1)) = .err c) : lexN 0 (bytesN s) = .bad c p := by
  rw [h.lex, show max p e = p by omega, drop_get s p hp, lexN_err hc]; rfl
theorem CutI.tok {w wr w4 : World} {s : ByteArray} {v v' : Value} {acc : List Tok} {p e k n z : Nat} (h : CutI w wr s v acc p e) (he : e ≤ p) (hp : p < s.size) (hc : stepN s[p].toNat ((bytesN s).drop (p + 1)) = .tok k n z)
    (ho : w4.ownsRow (w.heap.size + 1) 37 3 v' (acc.length + 1) (tokC acc ++ [.int .i64 (k : Int), .int .i64 (n : Int), .int .i64 (p : Int)])) (hi : w4.heap[w.heap.size]? = some (.stringIter s (p + 1))) (hb : Below w.heap.size w w4) :
    CutI w w4 s v' (acc ++ [⟨k, n, p⟩]) (p + 1) (p + 1 + z) := by
  obtain ⟨hz, hd⟩ := stepN_z hc
  rw [List.length_drop, bytesN_len] at hz
  have hl := h.len
  refine ⟨by rw [tokC_snoc]; simpa using ho, hi, hb, ?_, fun j h1 h2 h3 => ?_, by omega, by omega, by simp; omega⟩
  · rw [h.lex, show max p e = p by omega, drop_get s p hp, lexN_tok hc, LexR.pre_pre, List.drop_drop, show max (p + 1) (p + 1 + z) = p + 1 + z by omega]
  · have h4 := hd (j - (p + 1)) (by omega) (by rw [List.length_drop, bytesN_len]; omega)
    rw [List.getElem_drop] at h4
    have h5 := bytesN_get s j h1
    have e1 : p + 1 + (j - (p + 1)) = j := by omega
    simp only [e1] at h4
    rw [h5] at h4
    simp [isDigN] at h4
    omega
set_option maxHeartbeats 4000000 in
set_option maxRecDepth 100000 in
theorem pcut_any (s : ByteArray) (w : World) (hs : s.size ≤ maxLen) :
    Calls Tryd.prog 31 #[.string s] w (CutPost w (lexAll (bytesN s))) := by
  unfold maxLen at hs
  by_cases hbig : 8000 < s.size
  · have L := Lib.hid (show lexAll (bytesN s) = .bad 2 0 by unfold lexAll; rw [if_pos (by rw [bytesN_len]; exact hbig)])
    have hb' : (8000 : Int) < (s.size : Int) := by omega
    go_enter Tryd.func31, Tryd.ntmps31
    go_wp2_with fail
    exact ⟨rfl, Below.refl _ _, by rw [L.out]; rfl⟩
  · have L := Lib.hid (show lexAll (bytesN s) = lexN 0 (bytesN s) by unfold lexAll; rw [if_neg (by rw [bytesN_len]; exact hbig)])
    have hb' : ¬ (8000 : Int) < (s.size : Int) := by omega
    have hs8 : s.size ≤ 8000 := by omega
    obtain ⟨i0, hi, hz0, hz1, hz2⟩ := info_parts infoT
    have HI := Lib.hid (And.intro hi (And.intro hz0 (And.intro hz1 hz2)))
    clear hi hz0 hz1 hz2 hbig
    go_enter Tryd.func31, Tryd.ntmps31
    go_wp2_with fail
    go_loopw [3, 4] (fun v en wr => ∃ (acc : List Tok) (p e : Nat), en = .int .i64 (e : Int) ∧ CutI w wr s v acc p e) (fun _ _ wr => s.size - wr.iterPos w.heap.size)
    case atStart =>
      refine ⟨[], 0, 0, rfl, ?_, World.iter_heap w s 0, (Below.refl _ w).alloc (Nat.le_refl _) _, ?_, fun j _ _ h => absurd h (by omega), Nat.zero_le _, Nat.zero_le _, Nat.zero_le _⟩
      · simpa [tokC] using World.ownsRow_nil _ _ _ _
      · simp [LexR.pre_nil]
    case round =>
      obtain ⟨acc, p, e, rfl, hI⟩ := hrel
      have CI := Lib.hid hI
      have hit := hI.it
      have hple := hI.le1
      have hele := hI.le2
      have hlen := hI.len
      have hbw := hI.below
      clear hI
      by_cases hp : p < s.size
      · by_cases he : p < e
        · have ha := CI.out.asc p hp (Nat.le_refl _) he
          have hnx : ∀ ty, (Instr.next (.pointer (some ⟨w.heap.size, 0, none⟩)) true ty).run Tryd.prog wr = _ := fun ty => Lib.run_next_ascii_at wr w.heap.size s p ty hit hp ha
          have NX := Lib.hid (CI.out.skip he)
          have HIT := Lib.hid hit
          clear hit
          go_wp2_with fail
          go_roundw
          case rel => exact ⟨acc, p + 1, e, rfl, NX.out⟩
          case measure => simp only [iterPos_of NX.out.it, iterPos_of HIT.out]; omega
        · have he' : e ≤ p := by omega
          by_cases ha : s[p].toNat < 128
          · have hnx : ∀ ty, (Instr.next (.pointer (some ⟨w.heap.size, 0, none⟩)) true ty).run Tryd.prog wr = _ := fun ty => Lib.run_next_ascii_at wr w.heap.size s p ty hit hp ha
            have HIT := Lib.hid hit
            by_cases hbk : s[p].toNat = 32 ∨ s[p].toNat = 9
            · have NX := Lib.hid (CI.out.blank he' hp hbk)
              obtain ⟨c, hc⟩ : ∃ c, c = s[p].toNat := ⟨_, rfl⟩
              rw [← hc] at hbk hnx ha
              have hbt : (((c : Int) == 32) || ((c : Int) == 9)) = true := by rcases hbk with rfl | rfl <;> rfl
              clear hit hc hbk
              go_wp2_with (go_at_call 57; refine (isBlank_any (c : Int) _).mono ?_; rintro e2 w2 ⟨rfl, rfl⟩; rw [hbt])
              go_roundw
              case rel => exact ⟨acc, p + 1, e, rfl, NX.out⟩
              case measure => simp only [iterPos_of NX.out.it, iterPos_of HIT.out]; omega
            · obtain ⟨own1, it1, bel1⟩ := CI.out.next (q := p + 1)
              have ER := Lib.hid (fun c => @CutI.err w wr s _ acc p e c CI.out he' hp)
              have TK := Lib.hid (fun w4 v' k n z => @CutI.tok w wr w4 s _ v' acc p e k n z CI.out he' hp)
              obtain ⟨c, hc⟩ : ∃ c, c = s[p].toNat := ⟨_, rfl⟩
              rw [← hc] at hbk hnx ha ER TK
              have hbt : (((c : Int) == 32) || ((c : Int) == 9)) = false := by simp; omega
              have TA := Lib.hid (fun W => tokenAt_ascii s p c W hs8 hp ha hbk)
              have NB := stepN_not_blank hbk ((bytesN s).drop (p + 1))
              have ZB := Lib.hid (show ∀ k n z, stepN c ((bytesN s).drop (p + 1)) = .tok k n z → z ≤ 8000 from fun k n z h => by
                have := (stepN_z h).1
                rw [List.length_drop, bytesN_len] at this
                omega)
              obtain ⟨st, hst⟩ : ∃ st, st = stepN c ((bytesN s).drop (p + 1)) := ⟨_, rfl⟩
              rw [← hst] at ER TK TA NB ZB
              have O1 := Lib.hid own1
              have I1 := Lib.hid it1
              have B1 := Lib.hid bel1
              clear hit hc hbk own1 it1 bel1 hst
              cases st with
              | blank => exact absurd rfl NB
              | err code =>
                have R := Lib.hid (show lexAll (bytesN s) = .bad code p by rw [L.out]; exact ER.out code rfl)
                go_wp2_with (first
                  | (go_at_call 57; refine (isBlank_any (c : Int) _).mono ?_; rintro e2 w2 ⟨rfl, rfl⟩; rw [hbt])
                  | (go_at_call 58; refine (TA.out _).mono ?_; rintro e2 w2 ⟨hb2, rfl⟩))
                exact ⟨rfl, B1.out.trans (hb2.mono B1.out.size), by rw [R.out]⟩
              | tok k n z =>
                have Tk := Lib.hid (fun w4 v' => TK.out w4 v' k n z rfl)
                have hz8 := ZB.out k n z rfl
                clear ER TK NB ZB
                go_wp2_with (first
                  | (go_at_call 57; refine (isBlank_any (c : Int) _).mono ?_; rintro e2 w2 ⟨rfl, rfl⟩; rw [hbt])
                  | (go_at_call 58; refine (TA.out _).mono ?_; rintro e2 w2 ⟨hb2, rfl⟩; have O2 := Lib.hid (fun o => own_still (own_still O1.out hb2) ((Below.refl _ w2).alloc (Nat.le_refl _) o)); have hz2 := hb2.size; have hz1 := (Array.getElem?_eq_some_iff.1 I1.out).1; have HB2 := Lib.hid hb2; clear hb2)
                  | (at_builtin; refine wpList_append_lies _ (by rfl) _ _ _ (by rfl) (w.heap.size + 1) 37 i0 _ 3 24 Tryd.underlying33 HI.out.1 HI.out.2.1 HI.out.2.2.1 HI.out.2.2.2 (by rfl) (by omega) _ acc.length (tokC acc) (by rfl) (by exact O2.out _) ⟨w2.heap.size, 0, none⟩ 1 1 [.int .i64 (k : Int), .int .i64 (n : Int), .int .i64 (p : Int)] (by rfl) (by rfl) (by exact new3b _ _ _ _ _) (by simp [Value.oneCell']) (by omega) (by unfold maxLen; omega) (by omega) (by simp; omega) (w2.heap.size + 1) (by simp) ?_; intro g cap w4 hown4 hgrow hat hlt4; have O4 := Lib.hid hown4; have G4 := Lib.hid hgrow; clear hown4 hgrow hat hlt4))
                have OB := O1.out.lt
                have al := (Below.refl w2.heap.size w2).alloc (Nat.le_refl _) (.cells #[.int .i64 (k : Int), .int .i64 (n : Int), .int .i64 (p : Int)] 37)
                have i4 : w4.heap[w.heap.size]? = some (.stringIter s (p + 1)) := (G4.out.block _ (by simp; omega) (fun e => by have := OB _ e.symm; omega)).trans ((al.block _ (by omega)).trans ((HB2.out.block _ hz1).trans I1.out))
                have b4 : Below w.heap.size w w4 := ((B1.out.trans (HB2.out.mono B1.out.size)).trans (al.mono (by omega))).grown G4.out (by simp; omega) (fun k e => by have := OB k e; omega)
                have NX := Lib.hid (Tk.out w4 _ O4.out i4 b4)
                clear i4 b4 al OB
                go_roundw
                case rel => exact ⟨_, p + 1, p + 1 + z, by go_num, NX.out⟩
                case measure => simp only [iterPos_of NX.out.it, iterPos_of HIT.out]; omega
          · have hnx : ∀ ty, (Instr.next (.pointer (some ⟨w.heap.size, 0, none⟩)) true ty).run Tryd.prog wr = _ := fun ty => Lib.run_next_any_at wr w.heap.size s p ty hit hp
            have hdh := decode_high s p hp (by omega)
            have hdl := decode_le s p
            have R := Lib.hid (show lexAll (bytesN s) = .bad 30 p by rw [L.out]; exact CI.out.err he' hp (stepN_high (by omega) _))
            obtain ⟨own1, it1, bel1⟩ := CI.out.next (q := p + (Utf8.decode s p).2)
            obtain ⟨c, hc⟩ : ∃ c, c = (Utf8.decode s p).1 := ⟨_, rfl⟩
            obtain ⟨z, hz⟩ : ∃ z, z = (Utf8.decode s p).2 := ⟨_, rfl⟩
            rw [← hc] at hdh hdl hnx
            rw [← hz] at hnx bel1
            have hbt : (((c : Int) == 32) || ((c : Int) == 9)) = false := by simp; omega
            have B1 := Lib.hid bel1
            have TA := Lib.hid (fun W => tokenAt_high s p (c : Int) W hp (by omega) (by omega))
            clear hit hc hz own1 it1 bel1
            go_wp2_with (first
              | (go_at_call 57; refine (isBlank_any (c : Int) _).mono ?_; rintro e2 w2 ⟨rfl, rfl⟩; rw [hbt])
              | (go_at_call 58; refine (TA.out _).mono ?_; rintro e2 w2 ⟨hb2, rfl⟩))
            exact ⟨rfl, B1.out.trans (hb2.mono B1.out.size), by rw [R.out]⟩
      · obtain rfl : p = s.size := by omega
        have hnx : ∀ ty, (Instr.next (.pointer (some ⟨w.heap.size, 0, none⟩)) true ty).run Tryd.prog wr = _ := fun ty => Lib.run_next_end_at wr w.heap.size s s.size ty hit hp
        have R := Lib.hid (show lexAll (bytesN s) = .ok acc by
          rw [L.out, CI.out.lex, show max s.size e = s.size by omega, List.drop_of_length_le (by rw [bytesN_len]; exact Nat.le_refl _), lexN_nil]
          simp [LexR.pre])
        clear hit
        go_wp2_with fail
        go_ret
        refine ⟨hbw, ?_⟩
        rw [R.out]
        exact ⟨_, rfl, own_lower CI.out.own (by omega)⟩
end Go.Proofs.YtgnfbhemkombaaaDoor
