/- H9, HM, HN, one behind the other. -/
import Derived.Test.YtgnfbhemkombaaaGreatH8
import Derived.Test.YtgnfbhemkombaaaGreatHL
import Derived.Test.YtgnfbhemkombaaaGreatHV
import Derived.Test.YtgnfbhemkombaaaGreatSZ
import Derived.Test.YtgnfbhemkombaaaGreatSX
import Derived.Test.YtgnfbhemkombaaaGreatEV
namespace Go.Proofs.YtgnfbhemkombaaaGreat
open Go.RowKit
set_option linter.unusedVariables false
set_option linter.unusedSimpArgs false
set_option maxHeartbeats 8000000 in
set_option maxRecDepth 100000 in
theorem made2_any (a b d : Tr) (A : Option Addr) (c : Nat) (x : Int) (w : World) (fa : a.fit) (fb : b.fit) (fd : d.fit) (hl : IsT w w.heap.size (.node 0 0 [a, b, d]) A c) :
    Calls Tryz.prog 25 #[.int .i64 2, .slice A 3 c, .int .i64 x] w (MadeP w (impT (impT a (impT b d)) (impT (impT a b) (impT a d)))) := by
  obtain ⟨g, o, Aa, ca, Ab, cb, Ad, cd, rfl, hg, ⟨ha, hb, hd⟩, ⟨ta, tb, td⟩, hcn⟩ := kids3 hl
  have F1 := Lib.hid (FM.start w).drew
  have FT := Lib.hid (show (impT (impT a (impT b d)) (impT (impT a b) (impT a d))).fit from (fit_node2 (fit_node2 fa (fit_node2 fb fd)) (fit_node2 (fit_node2 fa fb) (fit_node2 fa fd))))
  have Ha := Lib.hid ha
  have Ta := Lib.hid ta
  have Hb := Lib.hid hb
  have Tb := Lib.hid tb
  have Hd := Lib.hid hd
  have Td := Lib.hid td
  have E := Lib.hid (((F1.out.more (FrT.ofB Ta.out (fun k hk => by unfold RX at hk; omega) F1.out.bel)).more (FrT.ofB Tb.out (fun k hk => by unfold RX at hk; omega) F1.out.bel)).more (FrT.ofB Td.out (fun k hk => by unfold RX at hk; omega) F1.out.bel))
  have f0 := E.out.froz 0
  have f1 := E.out.froz 1
  have f2 := E.out.froz 2
  clear hl F1 ha hb hd ta tb td fa fb fd
  go_enter Tryz.func25, Tryz.ntmps25
  go_wp2_with fail
  go_region_held3 (fun w' => (w'.cell? ⟨g, o, none⟩ = some (.int .i64 a.k) ∧ w'.cell? ⟨g, o + 1, none⟩ = some (.int .i64 a.i) ∧ w'.cell? ⟨g, o + 2, none⟩ = some (.slice Aa a.ks.length ca)) ∧ ((w'.cell? ⟨g, o + 3, none⟩ = some (.int .i64 b.k) ∧ w'.cell? ⟨g, o + 3 + 1, none⟩ = some (.int .i64 b.i) ∧ w'.cell? ⟨g, o + 3 + 2, none⟩ = some (.slice Ab b.ks.length cb)) ∧ (w'.cell? ⟨g, o + 6, none⟩ = some (.int .i64 d.k) ∧ w'.cell? ⟨g, o + 6 + 1, none⟩ = some (.int .i64 d.i) ∧ w'.cell? ⟨g, o + 6 + 2, none⟩ = some (.slice Ad d.ks.length cd))))
    (first | exact ⟨Ha.out.keep E.out.bel hg, Hb.out.keep E.out.bel hg, Hd.out.keep E.out.bel hg⟩ | exact ⟨Ha.out.keep (E.out.set _ _ _).bel hg, Hb.out.keep (E.out.set _ _ _).bel hg, Hd.out.keep (E.out.set _ _ _).bel hg⟩)
    (first
        | (go_at_call 56; refine (rimp_any (RX w) b d Ab Ad cb cd _ E.out.hX (E.out.ft b Ab cb (by simp)) (E.out.ft d Ad cd (by simp))).mono ?_; rintro e5 w5 ⟨R0, r0, rfl, h5, hb5⟩; replace E := Lib.hid ((E.out.keep hb5).more h5); have f0 := E.out.froz 0; have f1 := E.out.froz 1; have f2 := E.out.froz 2; obtain ⟨u5, v5, y5, hr5⟩ := E.out.rb; obtain ⟨s0, s1, s2⟩ := hr5.cells; clear hb5 h5 hr5)
        | (go_at_call 56; refine (rimp_any (RX w) a (impT b d) Aa R0 ca r0 _ E.out.hX (E.out.ft a Aa ca (by simp)) (E.out.ft (impT b d) R0 r0 (by simp))).mono ?_; rintro e5 w5 ⟨R1, r1, rfl, h5, hb5⟩; replace E := Lib.hid ((E.out.keep hb5).more h5); have f0 := E.out.froz 0; have f1 := E.out.froz 1; have f2 := E.out.froz 2; obtain ⟨u5, v5, y5, hr5⟩ := E.out.rb; obtain ⟨s0, s1, s2⟩ := hr5.cells; clear hb5 h5 hr5)
        | (go_at_call 56; refine (rimp_any (RX w) a b Aa Ab ca cb _ E.out.hX (E.out.ft a Aa ca (by simp)) (E.out.ft b Ab cb (by simp))).mono ?_; rintro e5 w5 ⟨R2, r2, rfl, h5, hb5⟩; replace E := Lib.hid ((E.out.keep hb5).more h5); have f0 := E.out.froz 0; have f1 := E.out.froz 1; have f2 := E.out.froz 2; obtain ⟨u5, v5, y5, hr5⟩ := E.out.rb; obtain ⟨s0, s1, s2⟩ := hr5.cells; clear hb5 h5 hr5)
        | (go_at_call 56; refine (rimp_any (RX w) a d Aa Ad ca cd _ E.out.hX (E.out.ft a Aa ca (by simp)) (E.out.ft d Ad cd (by simp))).mono ?_; rintro e5 w5 ⟨R3, r3, rfl, h5, hb5⟩; replace E := Lib.hid ((E.out.keep hb5).more h5); have f0 := E.out.froz 0; have f1 := E.out.froz 1; have f2 := E.out.froz 2; obtain ⟨u5, v5, y5, hr5⟩ := E.out.rb; obtain ⟨s0, s1, s2⟩ := hr5.cells; clear hb5 h5 hr5)
        | (go_at_call 56; refine (rimp_any (RX w) (impT a b) (impT a d) R2 R3 r2 r3 _ E.out.hX (E.out.ft (impT a b) R2 r2 (by simp)) (E.out.ft (impT a d) R3 r3 (by simp))).mono ?_; rintro e5 w5 ⟨R4, r4, rfl, h5, hb5⟩; replace E := Lib.hid ((E.out.keep hb5).more h5); have f0 := E.out.froz 0; have f1 := E.out.froz 1; have f2 := E.out.froz 2; obtain ⟨u5, v5, y5, hr5⟩ := E.out.rb; obtain ⟨s0, s1, s2⟩ := hr5.cells; clear hb5 h5 hr5)
        | (go_at_call 56; refine (rimp_any (RX w) (impT a (impT b d)) (impT (impT a b) (impT a d)) R1 R4 r1 r4 _ E.out.hX (E.out.ft (impT a (impT b d)) R1 r1 (by simp)) (E.out.ft (impT (impT a b) (impT a d)) R4 r4 (by simp))).mono ?_; rintro e5 w5 ⟨R5, r5, rfl, h5, hb5⟩; replace E := Lib.hid ((E.out.keep hb5).more h5); have f0 := E.out.froz 0; have f1 := E.out.froz 1; have f2 := E.out.froz 2; obtain ⟨u5, v5, y5, hr5⟩ := E.out.rb; obtain ⟨s0, s1, s2⟩ := hr5.cells; clear hb5 h5 hr5))
  all_goals
    have E2 := Lib.hid (E.out.set (.int .i64 (impT (impT a (impT b d)) (impT (impT a b) (impT a d))).k) (.int .i64 (impT (impT a (impT b d)) (impT (impT a b) (impT a d))).i) (.slice R5 (impT (impT a (impT b d)) (impT (impT a b) (impT a d))).ks.length r5))
    have RS := Lib.hid (E.out.res (.int .i64 (impT (impT a (impT b d)) (impT (impT a b) (impT a d))).k) (.int .i64 (impT (impT a (impT b d)) (impT (impT a b) (impT a d))).i) (.slice R5 (impT (impT a (impT b d)) (impT (impT a b) (impT a d))).ks.length r5))
    obtain ⟨q0, q1, q2⟩ := RS.out.cells
    go_wp2_with fail
    refine (copy_any (impT (impT a (impT b d)) (impT (impT a b) (impT a d))).sz (impT (impT a (impT b d)) (impT (impT a b) (impT a d))) R5 r5 _ (Nat.le_refl _) (by exact (E2.out.ft (impT (impT a (impT b d)) (impT (impT a b) (impT a d))) R5 r5 (by simp)).isT)).mono ?_
    rintro e9 w9 ⟨A9, c9, rfl, ho9, hb9⟩
    have E9 := Lib.hid (E2.out.keep hb9)
    have O9 := Lib.hid ho9
    have z9 := E2.out.size
    have wf0 := E9.out.wb.frozen 0
    have wf1 := E9.out.wb.frozen 1
    have wf2 := E9.out.wb.frozen 2
    have wf3 := E9.out.wb.frozen 3
    have wf4 := E9.out.wb.frozen 4
    obtain ⟨v0, v1, v2, v3, v4⟩ := E9.out.wb.cells
    clear hb9 ho9
    go_wp2_with fail
    obtain ⟨p0, p1, p2, p3, p4⟩ := (E9.out.wb.set5 (.bool true) (.int .i64 (impT (impT a (impT b d)) (impT (impT a b) (impT a d))).k) (.int .i64 (impT (impT a (impT b d)) (impT (impT a b) (impT a d))).i) (.slice A9 (impT (impT a (impT b d)) (impT (impT a b) (impT a d))).ks.length c9) (.int .i64 0)).cells
    obtain ⟨mi, mb⟩ := made_mem E9.out O9.out (by omega) FT.out (.bool true) (.int .i64 (impT (impT a (impT b d)) (impT (impT a b) (impT a d))).k) (.int .i64 (impT (impT a (impT b d)) (impT (impT a b) (impT a d))).i) (.slice A9 (impT (impT a (impT b d)) (impT (impT a b) (impT a d))).ks.length c9) (.int .i64 0)
    exact bodyPost_ret (v := .agg #[.bool true, .int .i64 (impT (impT a (impT b d)) (impT (impT a b) (impT a d))).k, .int .i64 (impT (impT a (impT b d)) (impT (impT a b) (impT a d))).i, .slice A9 (impT (impT a (impT b d)) (impT (impT a b) (impT a d))).ks.length c9, .int .i64 0]) (by simp [results, Tryz.results25, go_sem, p0, p1, p2, p3, p4]) rfl ⟨A9, c9, rfl, mi, mb⟩
end Go.Proofs.YtgnfbhemkombaaaGreat
namespace Go.Proofs.YtgnfbhemkombaaaGreat
open Go.RowKit
set_option linter.unusedVariables false
set_option linter.unusedSimpArgs false
/-- what made answers -/
def MadeO (w : World) (o : Option Tr) (e : Ending) (w' : World) : Prop :=
  match o with
  | some t => MadeP w t e w'
  | none => e = .returned (.agg #[.bool false, .int .i64 0, .int .i64 0, .slice none 0 0, .int .i64 0]) ∧ Below w.heap.size w w'
theorem shp_fit8 (t : Tr) : t.shp = true → t.fit := by
  induction t using Tr.ind with
  | h t ih =>
    intro h
    have hk := vok_kids h
    have hn := (kind_of_shp t h).2.2.2.2
    exact (fit_eq t).2 ⟨by unfold Cap; omega, fun q hq => ih q hq (hk q hq)⟩
theorem right_fit8 {t : Tr} (h : rightN t = 0) : t.fit := shp_fit8 t (right_shp' h).1
theorem names_of {s : ByteArray} {cs : List Bool} (h : s.size = cs.length) (hb : (List.range s.size).all (fun m => decide (((s.data.getD m 0).toNat : Int) = 116) == cs.getD m false) = true) : Names s cs := by
  intro m hm
  have := List.all_eq_true.1 hb m (List.mem_range.2 hm)
  have e : s.data.getD m 0 = s[m] := by
    have : m < s.data.size := hm
    simp only [Array.getD]
    rw [dif_pos this]
    rfl
  rw [e] at this
  have h2 : decide ((s[m].toNat : Int) = 116) = cs.getD m false := by simpa using this
  rw [← h2]
  by_cases h3 : (s[m].toNat : Int) = 116
  · rw [decide_eq_true h3, h3]; rfl
  · rw [decide_eq_false h3, beq_eq_false_iff_ne]; exact h3
theorem namesS (n : Nat) (h1 : 1 ≤ n) (h7 : n ≤ 7) : Names (sortsS n) (sortsL n) ∧ (sortsS n).size = (sortsL n).length := by
  have hk : n = 1 ∨ n = 2 ∨ n = 3 ∨ n = 4 ∨ n = 5 ∨ n = 6 ∨ n = 7 := by omega
  rcases hk with rfl | rfl | rfl | rfl | rfl | rfl | rfl <;> exact ⟨names_of rfl (by decide), rfl⟩
theorem rsideK_any (n : Nat) (h1 : 1 ≤ n) (h7 : n ≤ 7) (l : List Tr) (hn : l.length = (sortsL n).length) (A : Option Addr) (c : Nat) (x : Int) (w : World) (hl : IsT w w.heap.size (.node 0 0 l) A c) :
    Calls Tryz.prog 24 #[.int .i64 (n : Int), .slice A l.length c, .int .i64 x] w fun e w' => e = .returned (.bool (rsideV n l x)) ∧ Below w.heap.size w w' := by
  have hk : n = 1 ∨ n = 2 ∨ n = 3 ∨ n = 4 ∨ n = 5 ∨ n = 6 ∨ n = 7 := by omega
  rcases hk with rfl | rfl | rfl | rfl | rfl | rfl | rfl
  · obtain ⟨a, b, rfl⟩ := list_two (l := l) (by simpa [sortsL] using hn)
    exact (rsideT_any 1 (by simp) A _ c x w).mono fun e w' h => ⟨h.1, by rw [← h.2]; exact Below.refl _ _⟩
  · obtain ⟨a, b, d, rfl⟩ := list_three (l := l) (by simpa [sortsL] using hn)
    exact (rsideT_any 2 (by simp) A _ c x w).mono fun e w' h => ⟨h.1, by rw [← h.2]; exact Below.refl _ _⟩
  · obtain ⟨a, b, rfl⟩ := list_two (l := l) (by simpa [sortsL] using hn)
    exact (rsideT_any 3 (by simp) A _ c x w).mono fun e w' h => ⟨h.1, by rw [← h.2]; exact Below.refl _ _⟩
  · obtain ⟨a, b, rfl⟩ := list_two (l := l) (by simpa [sortsL] using hn)
    exact rside4_any a b A c x w hl
  · obtain ⟨a, b, rfl⟩ := list_two (l := l) (by simpa [sortsL] using hn)
    exact rside5_any a b A c x w hl
  · obtain ⟨a, rfl⟩ := list_one (l := l) (by simpa [sortsL] using hn)
    exact (rsideT_any 6 (by simp) A _ c x w).mono fun e w' h => ⟨h.1, by rw [← h.2]; exact Below.refl _ _⟩
  · obtain ⟨a, b, d, e, rfl⟩ := list_four (l := l) (by simpa [sortsL] using hn)
    exact rside7_any a b d e A c x w hl
theorem madeK_any (n : Nat) (h1 : 1 ≤ n) (h7 : n ≤ 7) (l : List Tr) (hn : l.length = (sortsL n).length) (hr : ∀ q ∈ l, rightN q = 0) (hkt : n = 4 → ∀ a t, l = [a, t] → termB t.k = true) (A : Option Addr) (c : Nat) (x : Int) (x0 : 0 ≤ x) (x1 : x ≤ 63) (w : World) (hl : IsT w w.heap.size (.node 0 0 l) A c) :
    Calls Tryz.prog 25 #[.int .i64 (n : Int), .slice A l.length c, .int .i64 x] w (MadeO w (madeV n l x)) := by
  have hf : ∀ q ∈ l, q.fit := fun q hq => right_fit8 (hr q hq)
  have hk : n = 1 ∨ n = 2 ∨ n = 3 ∨ n = 4 ∨ n = 5 ∨ n = 6 ∨ n = 7 := by omega
  rcases hk with rfl | rfl | rfl | rfl | rfl | rfl | rfl
  · obtain ⟨a, b, rfl⟩ := list_two (l := l) (by simpa [sortsL] using hn)
    exact made1_any a b A c x w (hf a (by simp)) (hf b (by simp)) hl
  · obtain ⟨a, b, d, rfl⟩ := list_three (l := l) (by simpa [sortsL] using hn)
    exact made2_any a b d A c x w (hf a (by simp)) (hf b (by simp)) (hf d (by simp)) hl
  · obtain ⟨a, b, rfl⟩ := list_two (l := l) (by simpa [sortsL] using hn)
    exact made3_any a b A c x w (hf a (by simp)) (hf b (by simp)) hl
  · obtain ⟨a, t, rfl⟩ := list_two (l := l) (by simpa [sortsL] using hn)
    have ra := right_shp' (hr a (by simp))
    have rt := right_shp' (hr t (by simp))
    have kt := hkt rfl a t rfl
    have hm : madeV 4 [a, t] x = if (putX x t a).sz ≤ 1000 then some (impT (allT x a) (putX x t a)) else none := rfl
    by_cases hfit : (putX x t a).sz ≤ 1000
    · rw [hm, if_pos hfit]
      have fP : (putX x t a).fit := shp_fit8 _ (putE_shp (l := [(x, t)]) (fun p hp => by simp at hp; subst hp; exact ⟨kt, rt.1⟩) a 0 ra.1)
      exact made4_yes a t (putX x t a) A c x w x0 x1 ra.2.1 rt.2.1 rfl hfit (hf a (by simp)) fP hl
    · rw [hm, if_neg hfit]
      exact made4_no a t A c x w x0 x1 ra.2.1 rt.2.1 hfit hl
  · obtain ⟨a, b, rfl⟩ := list_two (l := l) (by simpa [sortsL] using hn)
    exact made5_any a b A c x w (hf a (by simp)) (hf b (by simp)) hl
  · obtain ⟨a, rfl⟩ := list_one (l := l) (by simpa [sortsL] using hn)
    exact made6_any a A c x w (hf a (by simp)) hl
  · obtain ⟨a, b, d, e, rfl⟩ := list_four (l := l) (by simpa [sortsL] using hn)
    exact made7_any a b d e A c x w (hf a (by simp)) (hf b (by simp)) (hf d (by simp)) (hf e (by simp)) hl
end Go.Proofs.YtgnfbhemkombaaaGreat
namespace Go.Proofs.YtgnfbhemkombaaaGreat
open Go.RowKit
set_option linter.unusedVariables false
set_option linter.unusedSimpArgs false
/-- an answer: a tree, and a fault -/
def AnsD (w : World) (x : Tr × Nat) (e : Ending) (w' : World) : Prop :=
  Below w.heap.size w w' ∧ ∃ A' c', IsT w' w'.heap.size x.1 A' c' ∧ e = .returned (.tuple #[.agg #[.int .i64 x.1.k, .int .i64 x.1.i, .slice A' x.1.ks.length c'], .int .i64 ((x.2 : Nat) : Int)])
theorem frN_less {X Y : Nat → Prop} {W : World} {t : Tr} {A : Option Addr} {c : Nat} (h : FrT X W t A c) (hs : ∀ k, Y k → X k) : FrT Y W t A c := fun W' h1 h2 => h W' (fun k hk hn => h1 k hk (fun hy => hn (hs k hy))) h2
theorem zeroIsD (W : World) (B : Nat) : IsT W B zeroT none 0 := IsT.mk (Nat.le_refl _) (by simp [zeroT, Tr.ks, Cap]) fun m hm => by simp [zeroT, Tr.ks] at hm
theorem ansD_zero {w wr : World} {x : Tr × Nat} {f : Nat} (hd : x = (zeroT, f)) (hbr : Below w.heap.size w wr) : AnsD w x (.returned (.tuple #[.agg #[.int .i64 0, .int .i64 0, .slice none 0 0], .int .i64 ((f : Nat) : Int)])) wr := by
  subst hd
  exact ⟨hbr, none, 0, zeroIsD _ _, rfl⟩
theorem makeD_at (n : Nat) (h1 : 1 ≤ n) (h7 : n ≤ 7) (l : List Tr) (x : Int) : makeD (n : Int) l x = if faultN l.length (sortsL n).length (decide (n = 4 ∨ n = 5)) x (sortedN l (sortsL n)) ≠ 0 then (zeroT, faultN l.length (sortsL n).length (decide (n = 4 ∨ n = 5)) x (sortedN l (sortsL n))) else
    if rsideV n l x = false then (zeroT, 72) else match madeV n l x with | none => (zeroT, 20) | some t => limR t := if_neg (fun h => h ⟨by omega, by omega⟩)
theorem faultN_bad {n m r : Nat} {nm : Bool} {x : Int} (h : n ≠ m ∨ x < 0 ∨ 63 < x ∨ (x ≠ 0 ∧ nm = false)) : faultN n m nm x r = 71 := if_pos h
theorem faultN_good {n m r : Nat} {nm : Bool} {x : Int} (h : ¬ (n ≠ m ∨ x < 0 ∨ 63 < x ∨ (x ≠ 0 ∧ nm = false))) : faultN n m nm x r = r := if_neg h
set_option maxHeartbeats 30000000 in
set_option maxRecDepth 100000 in
theorem rmake_any (k : Int) (l : List Tr) (A : Option Addr) (c : Nat) (x : Int) (w : World) (hl : IsT w w.heap.size (.node 0 0 l) A c) :
    Calls Tryz.prog 9 #[.int .i64 k, .agg #[.slice A l.length c, .int .i64 x]] w (AnsD w (makeD k l x)) := by
  have M0 := Lib.hid (MK.start w l A c x)
  have HL := Lib.hid hl
  have HL0 := Lib.hid (hl.keep M0.out.bel M0.out.bel.size)
  have hll : l.length ≤ c ∧ l.length * 40 ≤ 140737488351232 := hl.len
  clear hl
  obtain ⟨y0, y1, y2⟩ := M0.out.rb.cells
  obtain ⟨p0, p1⟩ := M0.out.pb.cells
  have f0 := M0.out.rb.frozen 0
  have f1 := M0.out.rb.frozen 1
  have f2 := M0.out.rb.frozen 2
  by_cases hk1 : k < 1
  · have D := Lib.hid (show makeD k l x = (zeroT, 70) from if_pos (fun h => by omega))
    go_enter Tryz.func9, Tryz.ntmps9
    go_wp2_with fail
    exact bodyPost_ret (v := .tuple #[.agg #[.int .i64 0, .int .i64 0, .slice none 0 0], .int .i64 70]) (by simp [results, Tryz.results9, go_sem, y0, y1, y2]) rfl (ansD_zero D.out M0.out.bel)
  · by_cases hk7 : 7 < k
    · have D := Lib.hid (show makeD k l x = (zeroT, 70) from if_pos (fun h => by omega))
      go_enter Tryz.func9, Tryz.ntmps9
      go_wp2_with fail
      exact bodyPost_ret (v := .tuple #[.agg #[.int .i64 0, .int .i64 0, .slice none 0 0], .int .i64 70]) (by simp [results, Tryz.results9, go_sem, y0, y1, y2]) rfl (ansD_zero D.out M0.out.bel)
    · obtain ⟨n, rfl⟩ : ∃ n : Nat, k = n := ⟨k.toNat, by omega⟩
      have h1 : 1 ≤ n := by omega
      have h7 : n ≤ 7 := by omega
      have DV := Lib.hid (makeD_at n h1 h7 l x)
      obtain ⟨hnm, hsz⟩ := namesS n h1 h7
      have SK := Lib.hid (fun (hn : l.length = (sortsL n).length) => rsideK_any n h1 h7 l hn A c x)
      have MKA := Lib.hid (fun (hn : l.length = (sortsL n).length) (hr : ∀ q ∈ l, rightN q = 0) (hkt : n = 4 → ∀ a t, l = [a, t] → termB t.k = true) (x0 : 0 ≤ x) (x1 : x ≤ 63) => madeK_any n h1 h7 l hn hr hkt A c x x0 x1)
      have SO := Lib.hid (rsorts_any n h1 h7)
      have BO := Lib.hid (rhasvar_any n)
      have K4 := Lib.hid (show sortedN l (sortsL n) = 0 → n = 4 → ∀ a t, l = [a, t] → termB t.k = true from fun hs h4 a t hlt => by
        subst h4; subst hlt
        have hb := (sorts_two hs).2
        have : ((termB a.k == false) && ((termB t.k == true) && true)) = true := hb
        simp at this
        exact this.2)
      have RR := Lib.hid (show sortedN l (sortsL n) = 0 → ∀ q ∈ l, rightN q = 0 from fun hs => (sorts_two hs).1)
      obtain ⟨cs, hcs⟩ : ∃ cs, cs = sortsL n := ⟨_, rfl⟩
      obtain ⟨s, hs⟩ : ∃ s, s = sortsS n := ⟨_, rfl⟩
      obtain ⟨nm, hnb⟩ : ∃ nm, nm = decide (n = 4 ∨ n = 5) := ⟨_, rfl⟩
      rw [← hcs] at DV hnm hsz SK MKA K4 RR
      rw [← hs] at hnm hsz SO
      rw [← hnb] at DV BO
      have NM := Lib.hid hnm
      have hcl : cs.length ≤ 4 := by
        rw [hcs]; unfold sortsL
        split; · simp
        · split; · simp
          · split; · simp
            · split <;> simp
      clear hcs hs hnb hnm h1 h7
      go_enter Tryz.func9, Tryz.ntmps9
      go_wp2_with fail
      refine (SO.out _).mono ?_
      rintro e w1 ⟨rfl, hw1⟩
      rw [← hw1]
      clear hw1
      by_cases hlen : l.length = cs.length
      · have e1 : ((l.length : Int) != (s.size : Int)) = false := by rw [hsz, hlen]; simp
        have HLN := Lib.hid hlen
        have HSZ := Lib.hid hsz
        clear hlen hsz
        by_cases hlo : x < 0
        · have D := Lib.hid (show makeD (n : Int) l x = (zeroT, 71) by rw [DV.out, faultN_bad (.inr (.inl hlo)), if_pos (by decide)])
          go_wp2_with fail
          exact bodyPost_ret (v := .tuple #[.agg #[.int .i64 0, .int .i64 0, .slice none 0 0], .int .i64 71]) (by simp [results, Tryz.results9, go_sem, y0, y1, y2]) rfl (ansD_zero D.out M0.out.bel)
        · by_cases hhi : 63 < x
          · have D := Lib.hid (show makeD (n : Int) l x = (zeroT, 71) by rw [DV.out, faultN_bad (.inr (.inr (.inl hhi))), if_pos (by decide)])
            go_wp2_with fail
            exact bodyPost_ret (v := .tuple #[.agg #[.int .i64 0, .int .i64 0, .slice none 0 0], .int .i64 71]) (by simp [results, Tryz.results9, go_sem, y0, y1, y2]) rfl (ansD_zero D.out M0.out.bel)
          · have hx0 : 0 ≤ x := by omega
            have hx1 : x ≤ 63 := by omega
            go_wp2_with fail
            refine (BO.out _).mono ?_
            rintro e w2 ⟨rfl, hw2⟩
            rw [← hw2]
            clear hw2
            by_cases hb : x ≠ 0 ∧ nm = false
            · have D := Lib.hid (show makeD (n : Int) l x = (zeroT, 71) by rw [DV.out, faultN_bad (.inr (.inr (.inr hb))), if_pos (by decide)])
              have e2 : (x != 0) = true := by rw [bne_iff_ne]; exact hb.1
              rw [hb.2]
              clear hb
              go_wp2_with fail
              exact bodyPost_ret (v := .tuple #[.agg #[.int .i64 0, .int .i64 0, .slice none 0 0], .int .i64 71]) (by simp [results, Tryz.results9, go_sem, y0, y1, y2]) rfl (ansD_zero D.out M0.out.bel)
            · have hg : faultN l.length cs.length nm x (sortedN l cs) = sortedN l cs := faultN_good (fun h => by rcases h with h | h | h | h; exact h HLN.out; omega; omega; exact hb h)
              have DG := Lib.hid (show makeD (n : Int) l x = if sortedN l cs ≠ 0 then (zeroT, sortedN l cs) else if rsideV n l x = false then (zeroT, 72) else match madeV n l x with | none => (zeroT, 20) | some t => limR t by rw [DV.out, hg])
              clear hg DV
              have hnx : nm = true ∨ (nm = false ∧ (x != 0) = false) := by
                cases nm with
                | true => exact .inl rfl
                | false => exact .inr ⟨rfl, by simpa using hb⟩
              clear hb
              rcases hnx with hn | ⟨hn, e2⟩
              all_goals
                rw [hn]
                go_wp2_with fail
                refine (rsorted_any (.node 0 0 l) A c s cs _ (by exact HL0.out) (HSZ.out.trans HLN.out.symm) NM.out).mono ?_
                rintro e w2 ⟨rfl, hb2⟩
                have M2 := Lib.hid (M0.out.keep hb2)
                have HL2 := Lib.hid (HL0.out.keep hb2 hb2.size)
                clear hb2
                clear y0 y1 y2 p0 p1 f0 f1 f2
                obtain ⟨y0, y1, y2⟩ := M2.out.rb.cells
                obtain ⟨p0, p1⟩ := M2.out.pb.cells
                have f0 := M2.out.rb.frozen 0
                have f1 := M2.out.rb.frozen 1
                have f2 := M2.out.rb.frozen 2
                obtain ⟨r, hr⟩ : ∃ r, r = sortedN l cs := ⟨_, rfl⟩
                rw [show sortedN (Tr.node 0 0 l).ks cs = r from hr.symm]
                by_cases h0 : r = 0
                · have S0 : sortedN l cs = 0 := by rw [← hr, h0]
                  have D1 := Lib.hid (DG.out.trans (if_neg (show ¬ sortedN l cs ≠ 0 from fun h => h S0)))
                  have R1 := Lib.hid (RR.out S0)
                  have R2 := Lib.hid (K4.out S0)
                  clear hr
                  subst h0
                  clear S0 DG
                  go_wp2_with fail
                  refine (SK.out HLN.out _ (by exact HL2.out)).mono ?_
                  rintro e w3 ⟨rfl, hb3⟩
                  have M3 := Lib.hid (M2.out.keep hb3)
                  have HL3 := Lib.hid (HL2.out.keep hb3 hb3.size)
                  clear hb3
                  clear y0 y1 y2 p0 p1 f0 f1 f2
                  obtain ⟨y0, y1, y2⟩ := M3.out.rb.cells
                  obtain ⟨p0, p1⟩ := M3.out.pb.cells
                  have f0 := M3.out.rb.frozen 0
                  have f1 := M3.out.rb.frozen 1
                  have f2 := M3.out.rb.frozen 2
                  cases hv : rsideV n l _ with
                  | false =>
                    have D := Lib.hid (D1.out.trans (if_pos hv))
                    obtain ⟨q0, q1, q2⟩ := (M3.out.rb.setall (.int .i64 0) (.int .i64 0) (.slice none 0 0)).cells
                    go_wp2_with fail
                    exact bodyPost_ret (v := .tuple #[.agg #[.int .i64 0, .int .i64 0, .slice none 0 0], .int .i64 72]) (by simp [results, Tryz.results9, go_sem, q0, q1, q2]) rfl (ansD_zero D.out (below_set3 M3.out.bel _ _ _ (by omega)))
                  | true =>
                    have D2 := Lib.hid (D1.out.trans (if_neg (show ¬ rsideV n l _ = false by rw [hv]; simp)))
                    clear hv
                    go_wp2_with fail
                    refine (MKA.out HLN.out R1.out R2.out hx0 hx1 _ (by exact HL3.out)).mono ?_
                    rintro e w4 hO
                    have z3 := M3.out.rb.lt
                    clear y0 y1 y2 p0 p1 f0 f1 f2
                    cases hm : madeV n l _ with
                    | none =>
                      rw [hm] at hO
                      obtain ⟨rfl, hb4⟩ := hO
                      have D := Lib.hid (show makeD (n : Int) l _ = (zeroT, 20) by rw [D2.out, hm])
                      have M4 := Lib.hid ((M3.out.keep hb4).keep (alB w4 (.cells #[.bool false, .int .i64 0, .int .i64 0, .slice none 0 0, .int .i64 0] 57)))
                      obtain ⟨b0, b1, b2, b3, b4⟩ := (BoxW.new w4 (.bool false) (.int .i64 0) (.int .i64 0) (.slice none 0 0) (.int .i64 0)).cells
                      clear hb4 hm
                      obtain ⟨y0, y1, y2⟩ := M4.out.rb.cells
                      obtain ⟨p0, p1⟩ := M4.out.pb.cells
                      have f0 := M4.out.rb.frozen 0
                      have f1 := M4.out.rb.frozen 1
                      have f2 := M4.out.rb.frozen 2
                      obtain ⟨q0, q1, q2⟩ := (M4.out.rb.setall (.int .i64 0) (.int .i64 0) (.slice none 0 0)).cells
                      go_wp2_with fail
                      exact bodyPost_ret (v := .tuple #[.agg #[.int .i64 0, .int .i64 0, .slice none 0 0], .int .i64 20]) (by simp [results, Tryz.results9, go_sem, q0, q1, q2]) rfl (ansD_zero D.out (below_set3 M4.out.bel _ _ _ (by omega)))
                    | some t =>
                      rw [hm] at hO
                      obtain ⟨A9, c9, rfl, hf, hb4⟩ := hO
                      have D3 := Lib.hid (show makeD (n : Int) l _ = limR t by rw [D2.out, hm])
                      have M4 := Lib.hid ((M3.out.keep hb4).keep (alB w4 (.cells #[.bool true, .int .i64 t.k, .int .i64 t.i, .slice A9 t.ks.length c9, .int .i64 0] 57)))
                      have F4 := Lib.hid ((frN_less (Y := fun k => k < w.heap.size + 2) (show FrT (fun k => k < _) w4 t A9 c9 from hf) (fun k hk => by omega)).keep (alB w4 (.cells #[.bool true, .int .i64 t.k, .int .i64 t.i, .slice A9 t.ks.length c9, .int .i64 0] 57)))
                      have W4 := Lib.hid (BoxW.new w4 (.bool true) (.int .i64 t.k) (.int .i64 t.i) (.slice A9 t.ks.length c9) (.int .i64 0))
                      clear hb4 hm hf
                      obtain ⟨b0, b1, b2, b3, b4⟩ := W4.out.cells
                      go_wp2_with fail
                      refine (rright_any t A9 c9 _ (by exact F4.out.isT)).mono ?_
                      rintro e w5 ⟨rfl, hb5⟩
                      have M5 := Lib.hid (M4.out.keep hb5)
                      have F5 := Lib.hid (F4.out.keep hb5)
                      have W5 := Lib.hid (W4.out.keep hb5 W4.out.lt)
                      clear hb5 b0 b1 b2 b3 b4
                      obtain ⟨b0, b1, b2, b3, b4⟩ := W5.out.cells
                      obtain ⟨y0, y1, y2⟩ := M5.out.rb.cells
                      obtain ⟨p0, p1⟩ := M5.out.pb.cells
                      have f0 := M5.out.rb.frozen 0
                      have f1 := M5.out.rb.frozen 1
                      have f2 := M5.out.rb.frozen 2
                      by_cases ht : rightN t = 0
                      · have D := Lib.hid (show makeD (n : Int) l _ = (t, 0) by rw [D3.out]; unfold limR; rw [if_pos ht])
                        rw [ht]
                        clear ht
                        obtain ⟨q0, q1, q2⟩ := (M5.out.rb.setall (.int .i64 t.k) (.int .i64 t.i) (.slice A9 t.ks.length c9)).cells
                        go_wp2_with fail
                        exact bodyPost_ret (v := .tuple #[.agg #[.int .i64 t.k, .int .i64 t.i, .slice A9 t.ks.length c9], .int .i64 0]) (by simp [results, Tryz.results9, go_sem, q0, q1, q2]) rfl (show AnsD w _ _ _ by rw [D.out]; exact ⟨below_set3 M5.out.bel _ _ _ (by omega), A9, c9, (F5.out.set3 (by show w.heap.size + 1 < w.heap.size + 2; omega) _ _ _).isT, rfl⟩)
                      · have D := Lib.hid (show makeD (n : Int) l _ = (zeroT, rightN t) by rw [D3.out]; unfold limR; rw [if_neg ht])
                        have h5 : ((rightN t : Int) != 0) = true := by rw [bne_iff_ne]; omega
                        clear ht
                        go_wp2_with fail
                        refine (rright_any t A9 c9 _ (by exact F5.out.isT)).mono ?_
                        rintro e w6 ⟨rfl, hb6⟩
                        have M6 := Lib.hid (M5.out.keep hb6)
                        clear hb6 b0 b1 b2 b3 b4
                        clear y0 y1 y2 p0 p1 f0 f1 f2
                        obtain ⟨y0, y1, y2⟩ := M6.out.rb.cells
                        obtain ⟨p0, p1⟩ := M6.out.pb.cells
                        have f0 := M6.out.rb.frozen 0
                        have f1 := M6.out.rb.frozen 1
                        have f2 := M6.out.rb.frozen 2
                        obtain ⟨q0, q1, q2⟩ := (M6.out.rb.setall (.int .i64 0) (.int .i64 0) (.slice none 0 0)).cells
                        go_wp2_with fail
                        exact bodyPost_ret (v := .tuple #[.agg #[.int .i64 0, .int .i64 0, .slice none 0 0], .int .i64 (rightN t : Int)]) (by simp [results, Tryz.results9, go_sem, q0, q1, q2]) rfl (ansD_zero D.out (below_set3 M6.out.bel _ _ _ (by omega)))
                · have h1 : ((r : Int) != 0) = true := by rw [bne_iff_ne]; omega
                  have D := Lib.hid (DG.out.trans (by rw [← hr, if_pos h0]))
                  clear h0 hr
                  obtain ⟨q0, q1, q2⟩ := (M2.out.rb.setall (.int .i64 0) (.int .i64 0) (.slice none 0 0)).cells
                  go_wp2_with fail
                  exact bodyPost_ret (v := .tuple #[.agg #[.int .i64 0, .int .i64 0, .slice none 0 0], .int .i64 (r : Int)]) (by simp [results, Tryz.results9, go_sem, q0, q1, q2]) rfl (ansD_zero D.out (below_set3 M2.out.bel _ _ _ (by omega)))
      · have D := Lib.hid (show makeD (n : Int) l x = (zeroT, 71) by rw [DV.out, faultN_bad (.inl hlen), if_pos (by decide)])
        have e1 : ((l.length : Int) != (s.size : Int)) = true := by rw [hsz, bne_iff_ne]; omega
        clear hsz hlen
        go_wp2_with fail
        exact bodyPost_ret (v := .tuple #[.agg #[.int .i64 0, .int .i64 0, .slice none 0 0], .int .i64 71]) (by simp [results, Tryz.results9, go_sem, y0, y1, y2]) rfl (ansD_zero D.out M0.out.bel)
theorem makeD_fit (k : Int) (l : List Tr) (x : Int) : (makeD k l x).1.fit := by
  have hz : zeroT.fit := (fit_eq zeroT).2 ⟨by simp [zeroT, Tr.ks, Cap], fun q hq => by simp [zeroT, Tr.ks] at hq⟩
  unfold makeD
  split
  · exact hz
  · split
    · exact hz
    · split
      · exact hz
      · cases madeV k.toNat l x with
        | none => exact hz
        | some t =>
          show (limR t).1.fit
          unfold limR
          split
          · next h => exact right_fit8 h
          · exact hz
theorem make_is (k : Int) (l : List Tr) (A : Option Addr) (c : Nat) (x : Int) (w : World) (hl : IsT w w.heap.size (.node 0 0 l) A c) :
    Calls Tryz.prog 10 #[.int .i64 k, .agg #[.slice A l.length c, .int .i64 x]] w (AnsD w (makeD k l x)) := by
  have h := make_any k l A c x w hl
  rw [make_eq] at h
  refine h.mono fun e w' hp => ?_
  obtain ⟨hb, A', c', ho, he⟩ := hp
  exact ⟨hb, A', c', ho.isT _ (Nat.le_refl _) (makeD_fit k l x), he⟩
theorem like_sameD (a : Tr) : likeB a a = true := by unfold likeB; exact decide_eq_true (cmpT_self a)
end Go.Proofs.YtgnfbhemkombaaaGreat
