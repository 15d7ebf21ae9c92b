/- made of the document's layer 7: schema 2. -/
import Derived.Test.YtjdhmfpkhijkeaaGreatH8
namespace Go.Proofs.YtjdhmfpkhijkeaaGreat
open Go.RowKit
set_option linter.unusedVariables false
set_option linter.unusedSimpArgs false
set_option maxHeartbeats 8000000 in
set_option maxRecDepth 100000 in
theorem made2_any (a b d : Tr) (A : Option Addr) (c : Nat) (x : Int) (w : World) (fa : a.fit) (fb : b.fit) (fd : d.fit) (hl : IsT w w.heap.size (.node 0 0 [a, b, d]) A c) :
    Calls Tryz.prog 26 #[.int .i64 2, .slice A 3 c, .int .i64 x] w (MadeP w (impT (impT a (impT b d)) (impT (impT a b) (impT a d)))) := by
  obtain ⟨g, o, Aa, ca, Ab, cb, Ad, cd, rfl, hg, ⟨ha, hb, hd⟩, ⟨ta, tb, td⟩, hcn⟩ := kids3 hl
  have F1 := Lib.hid (FM.start w).drew
  have FT := Lib.hid (show (impT (impT a (impT b d)) (impT (impT a b) (impT a d))).fit from (fit_node2 (fit_node2 fa (fit_node2 fb fd)) (fit_node2 (fit_node2 fa fb) (fit_node2 fa fd))))
  have Ha := Lib.hid ha
  have Ta := Lib.hid ta
  have Hb := Lib.hid hb
  have Tb := Lib.hid tb
  have Hd := Lib.hid hd
  have Td := Lib.hid td
  have E := Lib.hid (((F1.out.more (FrT.ofB Ta.out (fun k hk => by unfold RX at hk; omega) F1.out.bel)).more (FrT.ofB Tb.out (fun k hk => by unfold RX at hk; omega) F1.out.bel)).more (FrT.ofB Td.out (fun k hk => by unfold RX at hk; omega) F1.out.bel))
  have f0 := E.out.froz 0
  have f1 := E.out.froz 1
  have f2 := E.out.froz 2
  clear hl F1 ha hb hd ta tb td fa fb fd
  go_enter Tryz.func26, Tryz.ntmps26
  go_wp2_with fail
  go_region_held3 (fun w' => (w'.cell? ⟨g, o, none⟩ = some (.int .i64 a.k) ∧ w'.cell? ⟨g, o + 1, none⟩ = some (.int .i64 a.i) ∧ w'.cell? ⟨g, o + 2, none⟩ = some (.slice Aa a.ks.length ca)) ∧ ((w'.cell? ⟨g, o + 3, none⟩ = some (.int .i64 b.k) ∧ w'.cell? ⟨g, o + 3 + 1, none⟩ = some (.int .i64 b.i) ∧ w'.cell? ⟨g, o + 3 + 2, none⟩ = some (.slice Ab b.ks.length cb)) ∧ (w'.cell? ⟨g, o + 6, none⟩ = some (.int .i64 d.k) ∧ w'.cell? ⟨g, o + 6 + 1, none⟩ = some (.int .i64 d.i) ∧ w'.cell? ⟨g, o + 6 + 2, none⟩ = some (.slice Ad d.ks.length cd))))
    (first | exact ⟨Ha.out.keep E.out.bel hg, Hb.out.keep E.out.bel hg, Hd.out.keep E.out.bel hg⟩ | exact ⟨Ha.out.keep (E.out.set _ _ _).bel hg, Hb.out.keep (E.out.set _ _ _).bel hg, Hd.out.keep (E.out.set _ _ _).bel hg⟩)
    (first
        | (go_at_call 46; refine (rimp_any (RX w) b d Ab Ad cb cd _ E.out.hX (E.out.ft b Ab cb (by simp)) (E.out.ft d Ad cd (by simp))).mono ?_; rintro e5 w5 ⟨R0, r0, rfl, h5, hb5⟩; replace E := Lib.hid ((E.out.keep hb5).more h5); have f0 := E.out.froz 0; have f1 := E.out.froz 1; have f2 := E.out.froz 2; obtain ⟨u5, v5, y5, hr5⟩ := E.out.rb; obtain ⟨s0, s1, s2⟩ := hr5.cells; clear hb5 h5 hr5)
        | (go_at_call 46; refine (rimp_any (RX w) a (impT b d) Aa R0 ca r0 _ E.out.hX (E.out.ft a Aa ca (by simp)) (E.out.ft (impT b d) R0 r0 (by simp))).mono ?_; rintro e5 w5 ⟨R1, r1, rfl, h5, hb5⟩; replace E := Lib.hid ((E.out.keep hb5).more h5); have f0 := E.out.froz 0; have f1 := E.out.froz 1; have f2 := E.out.froz 2; obtain ⟨u5, v5, y5, hr5⟩ := E.out.rb; obtain ⟨s0, s1, s2⟩ := hr5.cells; clear hb5 h5 hr5)
        | (go_at_call 46; refine (rimp_any (RX w) a b Aa Ab ca cb _ E.out.hX (E.out.ft a Aa ca (by simp)) (E.out.ft b Ab cb (by simp))).mono ?_; rintro e5 w5 ⟨R2, r2, rfl, h5, hb5⟩; replace E := Lib.hid ((E.out.keep hb5).more h5); have f0 := E.out.froz 0; have f1 := E.out.froz 1; have f2 := E.out.froz 2; obtain ⟨u5, v5, y5, hr5⟩ := E.out.rb; obtain ⟨s0, s1, s2⟩ := hr5.cells; clear hb5 h5 hr5)
        | (go_at_call 46; refine (rimp_any (RX w) a d Aa Ad ca cd _ E.out.hX (E.out.ft a Aa ca (by simp)) (E.out.ft d Ad cd (by simp))).mono ?_; rintro e5 w5 ⟨R3, r3, rfl, h5, hb5⟩; replace E := Lib.hid ((E.out.keep hb5).more h5); have f0 := E.out.froz 0; have f1 := E.out.froz 1; have f2 := E.out.froz 2; obtain ⟨u5, v5, y5, hr5⟩ := E.out.rb; obtain ⟨s0, s1, s2⟩ := hr5.cells; clear hb5 h5 hr5)
        | (go_at_call 46; refine (rimp_any (RX w) (impT a b) (impT a d) R2 R3 r2 r3 _ E.out.hX (E.out.ft (impT a b) R2 r2 (by simp)) (E.out.ft (impT a d) R3 r3 (by simp))).mono ?_; rintro e5 w5 ⟨R4, r4, rfl, h5, hb5⟩; replace E := Lib.hid ((E.out.keep hb5).more h5); have f0 := E.out.froz 0; have f1 := E.out.froz 1; have f2 := E.out.froz 2; obtain ⟨u5, v5, y5, hr5⟩ := E.out.rb; obtain ⟨s0, s1, s2⟩ := hr5.cells; clear hb5 h5 hr5)
        | (go_at_call 46; refine (rimp_any (RX w) (impT a (impT b d)) (impT (impT a b) (impT a d)) R1 R4 r1 r4 _ E.out.hX (E.out.ft (impT a (impT b d)) R1 r1 (by simp)) (E.out.ft (impT (impT a b) (impT a d)) R4 r4 (by simp))).mono ?_; rintro e5 w5 ⟨R5, r5, rfl, h5, hb5⟩; replace E := Lib.hid ((E.out.keep hb5).more h5); have f0 := E.out.froz 0; have f1 := E.out.froz 1; have f2 := E.out.froz 2; obtain ⟨u5, v5, y5, hr5⟩ := E.out.rb; obtain ⟨s0, s1, s2⟩ := hr5.cells; clear hb5 h5 hr5))
  all_goals
    have E2 := Lib.hid (E.out.set (.int .i64 (impT (impT a (impT b d)) (impT (impT a b) (impT a d))).k) (.int .i64 (impT (impT a (impT b d)) (impT (impT a b) (impT a d))).i) (.slice R5 (impT (impT a (impT b d)) (impT (impT a b) (impT a d))).ks.length r5))
    have RS := Lib.hid (E.out.res (.int .i64 (impT (impT a (impT b d)) (impT (impT a b) (impT a d))).k) (.int .i64 (impT (impT a (impT b d)) (impT (impT a b) (impT a d))).i) (.slice R5 (impT (impT a (impT b d)) (impT (impT a b) (impT a d))).ks.length r5))
    obtain ⟨q0, q1, q2⟩ := RS.out.cells
    go_wp2_with fail
    refine (copy_any (impT (impT a (impT b d)) (impT (impT a b) (impT a d))).sz (impT (impT a (impT b d)) (impT (impT a b) (impT a d))) R5 r5 _ (Nat.le_refl _) (by exact (E2.out.ft (impT (impT a (impT b d)) (impT (impT a b) (impT a d))) R5 r5 (by simp)).isT)).mono ?_
    rintro e9 w9 ⟨A9, c9, rfl, ho9, hb9⟩
    have E9 := Lib.hid (E2.out.keep hb9)
    have O9 := Lib.hid ho9
    have z9 := E2.out.size
    have wf0 := E9.out.wb.frozen 0
    have wf1 := E9.out.wb.frozen 1
    have wf2 := E9.out.wb.frozen 2
    have wf3 := E9.out.wb.frozen 3
    have wf4 := E9.out.wb.frozen 4
    obtain ⟨v0, v1, v2, v3, v4⟩ := E9.out.wb.cells
    clear hb9 ho9
    go_wp2_with fail
    obtain ⟨p0, p1, p2, p3, p4⟩ := (E9.out.wb.set5 (.bool true) (.int .i64 (impT (impT a (impT b d)) (impT (impT a b) (impT a d))).k) (.int .i64 (impT (impT a (impT b d)) (impT (impT a b) (impT a d))).i) (.slice A9 (impT (impT a (impT b d)) (impT (impT a b) (impT a d))).ks.length c9) (.int .i64 0)).cells
    obtain ⟨mi, mb⟩ := made_mem E9.out O9.out (by omega) FT.out (.bool true) (.int .i64 (impT (impT a (impT b d)) (impT (impT a b) (impT a d))).k) (.int .i64 (impT (impT a (impT b d)) (impT (impT a b) (impT a d))).i) (.slice A9 (impT (impT a (impT b d)) (impT (impT a b) (impT a d))).ks.length c9) (.int .i64 0)
    exact bodyPost_ret (v := .agg #[.bool true, .int .i64 (impT (impT a (impT b d)) (impT (impT a b) (impT a d))).k, .int .i64 (impT (impT a (impT b d)) (impT (impT a b) (impT a d))).i, .slice A9 (impT (impT a (impT b d)) (impT (impT a b) (impT a d))).ks.length c9, .int .i64 0]) (by simp [results, Tryz.results26, go_sem, p0, p1, p2, p3, p4]) rfl ⟨A9, c9, rfl, mi, mb⟩
end Go.Proofs.YtjdhmfpkhijkeaaGreat
