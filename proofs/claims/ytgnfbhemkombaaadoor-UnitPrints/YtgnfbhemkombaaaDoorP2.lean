/- isBlank, letter, number of package parse. -/
import Derived.Test.YtgnfbhemkombaaaDoorP1
import Derived.Test.YtgnfbhemkombaaaDoorT9
namespace Go.Proofs.YtgnfbhemkombaaaDoor
open Go.RowKit
set_option linter.unusedVariables false
def bytesN (s : ByteArray) : List Nat := s.data.toList.map fun b => b.toNat
theorem bytesN_len (s : ByteArray) : (bytesN s).length = s.size := by simp [bytesN]
theorem bytesN_get (s : ByteArray) (j : Nat) (h : j < s.size) : (bytesN s)[j]'(by rw [bytesN_len]; exact h) = (s[j]'h).toNat := by simp [bytesN]; rfl
theorem bytesN_drop (s : ByteArray) (i : Nat) : bytesN (s.extract i s.size) = (bytesN s).drop i := by
  unfold bytesN
  rw [← List.map_drop]
  congr 1
  simp [ByteArray.data_extract]
  exact List.take_of_length_le (by rw [List.length_drop]; exact Nat.le_refl _)
theorem bytesN_lt (s : ByteArray) : ∀ b ∈ bytesN s, b < 256 := by
  intro b hb
  simp only [bytesN, List.mem_map] at hb
  obtain ⟨x, _, rfl⟩ := hb
  exact x.toNat_lt
theorem isBlank_any (r : Int) (w : World) : Calls Tryd.prog 57 #[.int .i32 r] w fun e w' => e = .returned (.bool (r == 32 || r == 9)) ∧ w = w' := by
  by_cases h : r = 32
  · subst h
    go_enter Tryd.func57, Tryd.ntmps57
    go_wp2
    go_ret
    exact ⟨rfl, rfl⟩
  · have h1 : (r == 32) = false := by simpa using h
    go_enter Tryd.func57, Tryd.ntmps57
    go_wp2
    go_ret
    exact ⟨by rw [h1]; rfl, rfl⟩
/-- the kind of a rune's tokens and their greatest number, by numbers -/
def letterV (r : Int) : Int × Int := if r = 120 then (1, 63) else if r = 102 then (2, 99) else if r = 80 then (3, 99) else (0, 0)
theorem letter_any (r : Int) (w : World) : Calls Tryd.prog 95 #[.int .i32 r] w fun e w' => e = .returned (.tuple #[.int .i64 (letterV r).1, .int .i64 (letterV r).2]) ∧ w = w' := by
  unfold letterV
  by_cases h : r = 120
  · subst h
    go_enter Tryd.func95, Tryd.ntmps95
    go_wp2
    go_ret2
    exact ⟨rfl, rfl⟩
  · have e1 : (r == 120) = false := by simpa using h
    rw [if_neg h]
    by_cases h2 : r = 102
    · subst h2
      go_enter Tryd.func95, Tryd.ntmps95
      go_wp2
      go_ret2
      exact ⟨rfl, rfl⟩
    · have e2 : (r == 102) = false := by simpa using h2
      rw [if_neg h2]
      by_cases h3 : r = 80
      · subst h3
        go_enter Tryd.func95, Tryd.ntmps95
        go_wp2
        go_ret2
        exact ⟨rfl, rfl⟩
      · have e3 : (r == 80) = false := by simpa using h3
        rw [if_neg h3]
        clear h h2 h3
        go_enter Tryd.func95, Tryd.ntmps95
        go_wp2
        go_ret2
        exact ⟨rfl, rfl⟩
/-- what number answers of a list of bytes -/
def numR (l : List Nat) (most : Nat) : Nat × Nat := match numN (l.take (digsN l)) most with
  | some n => (n, digsN l)
  | none => (0, 0)
/-- p digits are through -/
structure NumI (w wr : World) (u : ByteArray) (most p : Nat) : Prop where
  le : p ≤ u.size
  it : wr.heap[w.heap.size]? = some (.stringIter u p)
  below : Below w.heap.size w wr
  dig : ∀ j (h : j < p) (h2 : j < (bytesN u).length), isDigN (bytesN u)[j] = true
theorem digs_take {u : ByteArray} {p : Nat} (h : ∀ j (h : j < p) (h2 : j < (bytesN u).length), isDigN (bytesN u)[j] = true) : ∀ d ∈ (bytesN u).take p, isDigN d = true := by
  intro d hd
  obtain ⟨j, hj, rfl⟩ := List.getElem_of_mem hd
  rw [List.getElem_take]
  exact h j (by simp at hj; omega) (by simp at hj; omega)
/-- the number's end: p digits there are -/
theorem num_end {u : ByteArray} {most p : Nat} (hm : most ≤ 99) (hp : digsN (bytesN u) = p) (h : ∀ j (h : j < p) (h2 : j < (bytesN u).length), isDigN (bytesN u)[j] = true) :
    numR (bytesN u) most = if most < capN most ((bytesN u).take p) ∨ 1 < p ∧ (bytesN u).head? = some 48 then (0, 0) else (capN most ((bytesN u).take p), p) := by
  have hle := digsN_le (bytesN u)
  have e := numN_cap most hm ((bytesN u).take p) (digs_take h)
  unfold numR
  rw [hp, e]
  have hl : ((bytesN u).take p).length = p := by simp; omega
  by_cases h0 : p = 0
  · subst h0
    simp [capN]
  · have hne : (bytesN u).take p ≠ [] := fun e => by rw [e] at hl; simp at hl; omega
    have hh : ((bytesN u).take p).head? = (bytesN u).head? := by
      cases hb : bytesN u with
      | nil => simp
      | cons a r => cases p with
        | zero => omega
        | succ p => simp
    rw [hl, hh]
    by_cases c : most < capN most ((bytesN u).take p) ∨ 1 < p ∧ (bytesN u).head? = some 48
    · rw [if_pos (Or.inr c), if_pos c]
    · rw [if_neg (fun x => x.elim hne c), if_neg c]
theorem head_get (u : ByteArray) (h : 0 < u.size) : (bytesN u).head? = some (u[0].toNat) := by
  have := bytesN_get u 0 h
  rw [List.head?_eq_getElem?, List.getElem?_eq_getElem (by rw [bytesN_len]; exact h), this]
theorem take_next (u : ByteArray) (p : Nat) (h : p < u.size) : (bytesN u).take (p + 1) = (bytesN u).take p ++ [u[p].toNat] := by
  rw [List.take_succ_eq_append_getElem (by rw [bytesN_len]; exact h), bytesN_get u p h]
theorem ret2_nats {a b c d : Nat} (h : a = c) (h' : b = d) : Ending.returned (.tuple #[.int .i64 (a : Int), .int .i64 (b : Int)]) = .returned (.tuple #[.int .i64 (c : Int), .int .i64 (d : Int)]) := by rw [h, h']
set_option maxHeartbeats 4000000 in
set_option maxRecDepth 100000 in
theorem number_any (u : ByteArray) (most : Nat) (w : World) (hm : most ≤ 99) (hs : u.size ≤ 8000) :
    Calls Tryd.prog 96 #[.string u, .int .i64 (most : Int)] w fun e w' => e = .returned (.tuple #[.int .i64 ((numR (bytesN u) most).1 : Nat), .int .i64 ((numR (bytesN u) most).2 : Nat)]) ∧ Below w.heap.size w w' := by
  go_enter Tryd.func96, Tryd.ntmps96
  go_wp2_with fail
  go_loopw [4, 5] (fun n d wr => ∃ p : Nat, d = .int .i64 (p : Int) ∧ n = .int .i64 ((capN most ((bytesN u).take p) : Nat) : Int) ∧ NumI w wr u most p) (fun _ d _ => u.size - (intOf d).toNat)
  case atStart => exact ⟨0, rfl, rfl, Nat.zero_le _, World.iter_heap w u 0, (Below.refl _ w).alloc (Nat.le_refl _) _, fun j h => absurd h (by omega)⟩
  case round =>
    obtain ⟨p, rfl, rfl, hI⟩ := hrel
    have HI := Lib.hid hI
    have hcap := capN_le most ((bytesN u).take p) (fun d hd => by have := digs_take hI.dig d hd; simp [isDigN] at this; omega)
    have hple := hI.le
    have hit := hI.it
    have hbw := hI.below
    clear hI
    by_cases hp : p < u.size
    · have hg := Lib.hid (bytesN_get u p hp)
      have hlen := Lib.hid (bytesN_len u)
      by_cases ha : u[p].toNat < 128
      · have hnx : ∀ ty, (Instr.next (.pointer (some ⟨w.heap.size, 0, none⟩)) true ty).run Tryd.prog wr = _ := fun ty => Lib.run_next_ascii_at wr w.heap.size u p ty hit hp ha
        have hit2 := Lib.iterAt_heap wr w.heap.size u p (p + 1) hit
        have hbw2 := Lib.below_iterAt hbw (k := w.heap.size) (Nat.le_refl _) u (p + 1)
        by_cases hdg : isDigN u[p].toNat = true
        · have TK := Lib.hid (take_next u p hp)
          have NI := Lib.hid (show NumI w (wr.iterAt w.heap.size u (p + 1)) u most (p + 1) from ⟨hp, hit2, hbw2, fun j h1 h2 => by
            by_cases e : j = p
            · subst e; rw [hg.out]; exact hdg
            · exact HI.out.dig j (by omega) h2⟩)
          obtain ⟨v, hv⟩ : ∃ v, v = u[p].toNat := ⟨_, rfl⟩
          rw [← hv] at hdg hnx TK
          have hv2 : 48 ≤ v ∧ v ≤ 57 := by simpa [isDigN] using hdg
          obtain ⟨g1, g2⟩ := hv2
          have CS := Lib.hid (capN_snoc most ((bytesN u).take p) v)
          obtain ⟨cp, hcp⟩ : ∃ cp, cp = capN most ((bytesN u).take p) := ⟨_, rfl⟩
          rw [← hcp] at CS hcap ⊢
          clear hcp hdg hit hit2 ha hg hv HI
          by_cases c1 : cp ≤ most
          · have C2 := Lib.hid (show capN most ((bytesN u).take (p + 1)) = 10 * cp + (v - 48) by rw [TK.out, CS.out, if_pos c1])
            go_wp2_with fail
            go_roundw
            case rel => exact ⟨p + 1, by go_num, by rw [C2.out]; congr 1; omega, NI.out⟩
            case measure => simp [intOf]; omega
          · have C2 := Lib.hid (show capN most ((bytesN u).take (p + 1)) = cp by rw [TK.out, CS.out, if_neg c1])
            go_wp2_with fail
            go_roundw
            case rel => exact ⟨p + 1, by go_num, by rw [C2.out], NI.out⟩
            case measure => simp [intOf]; omega
        · have D : digsN (bytesN u) = p := digsN_stop _ _ (by rw [hlen.out]; exact hp) HI.out.dig (by rw [hg.out]; simpa using hdg)
          have HB := Lib.hid hbw2
          obtain ⟨v, hv⟩ : ∃ v, v = u[p].toNat := ⟨_, rfl⟩
          rw [← hv] at hdg hnx
          have hv2 : v < 48 ∨ 57 < v := by simp [isDigN] at hdg; omega
          clear hdg hit2 ha hv hg hlen hbw2
          rcases hv2 with hv2 | hv2
          all_goals
            have E := Lib.hid (num_end hm D HI.out.dig)
            obtain ⟨cp, hcp⟩ : ∃ cp, cp = capN most ((bytesN u).take p) := ⟨_, rfl⟩
            rw [← hcp] at E hcap ⊢
            clear hcp D hit HI
            by_cases c1 : most < cp
            · have F := Lib.hid (show numR (bytesN u) most = (0, 0) by rw [E.out, if_pos (Or.inl c1)])
              go_wp2_with fail
              go_ret2
              exact ⟨ret2_nats (by rw [F.out]) (by rw [F.out]), HB.out⟩
            · by_cases c2 : 1 < p
              · have h0 : 0 < u.size := by omega
                have hh := Lib.hid (head_get u h0)
                have c2' : (1 : Int) < (p : Int) := by omega
                by_cases c3 : u[0].toNat = 48
                · have F := Lib.hid (show numR (bytesN u) most = (0, 0) by rw [E.out, if_pos (Or.inr ⟨c2, by rw [hh.out, c3]⟩)])
                  have h3 : ((u[0].toNat : Int) == 48) = true := by simp [c3]
                  clear c3
                  go_wp2_with fail
                  go_ret2
                  exact ⟨ret2_nats (by rw [F.out]) (by rw [F.out]), HB.out⟩
                · have F := Lib.hid (show numR (bytesN u) most = (cp, p) by rw [E.out, if_neg (fun x => x.elim c1 (fun y => c3 (by have := hh.out.symm.trans y.2; simpa using this)))])
                  have h3 : ((u[0].toNat : Int) == 48) = false := by simp; omega
                  clear c3
                  go_wp2_with fail
                  go_ret2
                  exact ⟨ret2_nats (by rw [F.out]) (by rw [F.out]), HB.out⟩
              · have F := Lib.hid (show numR (bytesN u) most = (cp, p) by rw [E.out, if_neg (fun x => x.elim c1 (fun y => c2 y.1))])
                have c2' : ¬ (1 : Int) < (p : Int) := by omega
                go_wp2_with fail
                go_ret2
                exact ⟨ret2_nats (by rw [F.out]) (by rw [F.out]), HB.out⟩
      · have hdh := decode_high u p hp (by omega)
        have hdl := decode_le u p
        have hnx : ∀ ty, (Instr.next (.pointer (some ⟨w.heap.size, 0, none⟩)) true ty).run Tryd.prog wr = _ := fun ty => Lib.run_next_any_at wr w.heap.size u p ty hit hp
        have hbw2 := Lib.below_iterAt hbw (k := w.heap.size) (Nat.le_refl _) u (p + (Utf8.decode u p).2)
        have D : digsN (bytesN u) = p := digsN_stop _ _ (by rw [hlen.out]; exact hp) HI.out.dig (by rw [hg.out]; simp [isDigN]; omega)
        have HB := Lib.hid hbw2
        obtain ⟨v, hv⟩ : ∃ v, v = (Utf8.decode u p).1 := ⟨_, rfl⟩
        obtain ⟨z, hz⟩ : ∃ z, z = (Utf8.decode u p).2 := ⟨_, rfl⟩
        rw [← hv] at hdh hdl hnx
        rw [← hz] at hnx HB
        clear ha hv hz hg hlen hbw2
        have hv2 : 57 < v := by omega
        have E := Lib.hid (num_end hm D HI.out.dig)
        obtain ⟨cp, hcp⟩ : ∃ cp, cp = capN most ((bytesN u).take p) := ⟨_, rfl⟩
        rw [← hcp] at E hcap ⊢
        clear hcp D hit HI
        by_cases c1 : most < cp
        · have F := Lib.hid (show numR (bytesN u) most = (0, 0) by rw [E.out, if_pos (Or.inl c1)])
          go_wp2_with fail
          go_ret2
          exact ⟨ret2_nats (by rw [F.out]) (by rw [F.out]), HB.out⟩
        · by_cases c2 : 1 < p
          · have h0 : 0 < u.size := by omega
            have hh := Lib.hid (head_get u h0)
            have c2' : (1 : Int) < (p : Int) := by omega
            by_cases c3 : u[0].toNat = 48
            · have F := Lib.hid (show numR (bytesN u) most = (0, 0) by rw [E.out, if_pos (Or.inr ⟨c2, by rw [hh.out, c3]⟩)])
              have h3 : ((u[0].toNat : Int) == 48) = true := by simp [c3]
              clear c3
              go_wp2_with fail
              go_ret2
              exact ⟨ret2_nats (by rw [F.out]) (by rw [F.out]), HB.out⟩
            · have F := Lib.hid (show numR (bytesN u) most = (cp, p) by rw [E.out, if_neg (fun x => x.elim c1 (fun y => c3 (by have := hh.out.symm.trans y.2; simpa using this)))])
              have h3 : ((u[0].toNat : Int) == 48) = false := by simp; omega
              clear c3
              go_wp2_with fail
              go_ret2
              exact ⟨ret2_nats (by rw [F.out]) (by rw [F.out]), HB.out⟩
          · have F := Lib.hid (show numR (bytesN u) most = (cp, p) by rw [E.out, if_neg (fun x => x.elim c1 (fun y => c2 y.1))])
            have c2' : ¬ (1 : Int) < (p : Int) := by omega
            go_wp2_with fail
            go_ret2
            exact ⟨ret2_nats (by rw [F.out]) (by rw [F.out]), HB.out⟩
    · have hnx : ∀ ty, (Instr.next (.pointer (some ⟨w.heap.size, 0, none⟩)) true ty).run Tryd.prog wr = _ := fun ty => Lib.run_next_end_at wr w.heap.size u p ty hit hp
      have D : digsN (bytesN u) = p := by
        have h1 := digsN_ge (bytesN u) p (by rw [bytesN_len]; exact hple) HI.out.dig
        have h2 := digsN_le (bytesN u)
        rw [bytesN_len] at h2
        omega
      have HB := Lib.hid hbw
      have E := Lib.hid (num_end hm D HI.out.dig)
      obtain ⟨cp, hcp⟩ : ∃ cp, cp = capN most ((bytesN u).take p) := ⟨_, rfl⟩
      rw [← hcp] at E hcap ⊢
      clear hcp D hit HI
      by_cases c1 : most < cp
      · have F := Lib.hid (show numR (bytesN u) most = (0, 0) by rw [E.out, if_pos (Or.inl c1)])
        go_wp2_with fail
        go_ret2
        exact ⟨ret2_nats (by rw [F.out]) (by rw [F.out]), HB.out⟩
      · by_cases c2 : 1 < p
        · have h0 : 0 < u.size := by omega
          have hh := Lib.hid (head_get u h0)
          have c2' : (1 : Int) < (p : Int) := by omega
          by_cases c3 : u[0].toNat = 48
          · have F := Lib.hid (show numR (bytesN u) most = (0, 0) by rw [E.out, if_pos (Or.inr ⟨c2, by rw [hh.out, c3]⟩)])
            have h3 : ((u[0].toNat : Int) == 48) = true := by simp [c3]
            clear c3
            go_wp2_with fail
            go_ret2
            exact ⟨ret2_nats (by rw [F.out]) (by rw [F.out]), HB.out⟩
          · have F := Lib.hid (show numR (bytesN u) most = (cp, p) by rw [E.out, if_neg (fun x => x.elim c1 (fun y => c3 (by have := hh.out.symm.trans y.2; simpa using this)))])
            have h3 : ((u[0].toNat : Int) == 48) = false := by simp; omega
            clear c3
            go_wp2_with fail
            go_ret2
            exact ⟨ret2_nats (by rw [F.out]) (by rw [F.out]), HB.out⟩
        · have F := Lib.hid (show numR (bytesN u) most = (cp, p) by rw [E.out, if_neg (fun x => x.elim c1 (fun y => c2 y.1))])
          have c2' : ¬ (1 : Int) < (p : Int) := by omega
          go_wp2_with fail
          go_ret2
          exact ⟨ret2_nats (by rw [F.out]) (by rw [F.out]), HB.out⟩
end Go.Proofs.YtgnfbhemkombaaaDoor
