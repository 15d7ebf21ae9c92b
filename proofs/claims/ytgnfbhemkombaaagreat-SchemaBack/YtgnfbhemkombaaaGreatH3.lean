/- The instances of package schema: fillSixth, fillSeventh; the side conditions but swapped. -/
import Derived.Test.YtgnfbhemkombaaaGreatH2
namespace Go.Proofs.YtgnfbhemkombaaaGreat
open Go.RowKit
set_option linter.unusedVariables false
set_option linter.unusedSimpArgs false
set_option maxHeartbeats 8000000 in
set_option maxRecDepth 100000 in
theorem fill6_any (a : Tr) (A : Option Addr) (c : Nat) (x : Int) (w : World) (hl : IsT w w.heap.size (.node 0 0 [a]) A c) :
    Calls Tryz.prog 46 #[.agg #[.slice A 1 c, .int .i64 x]] w (FillP w (eqT a a) 0) := by
  obtain ⟨g, o, Aa, ca, rfl, hg, ha, ta, hcn⟩ := kids1 hl
  have F1 := Lib.hid (FE.start w (some ⟨g, o, none⟩) 1 c x).drew
  have Ha := Lib.hid ha
  have Ta := Lib.hid ta
  have E := Lib.hid (F1.out.more (FrT.ofB Ta.out (fun k hk => by unfold RX at hk; omega) F1.out.bel))
  have f0 := E.out.froz 0
  have f1 := E.out.froz 1
  have f2 := E.out.froz 2
  clear hl F1 ha ta
  go_enter Tryz.func46, Tryz.ntmps46
  go_wp2_with fail
  go_region_held3 (fun w' => w'.cell? ⟨w.heap.size, 0, none⟩ = some (.slice (some ⟨g, o, none⟩) 1 c) ∧ (w'.cell? ⟨g, o, none⟩ = some (.int .i64 a.k) ∧ w'.cell? ⟨g, o + 1, none⟩ = some (.int .i64 a.i) ∧ w'.cell? ⟨g, o + 2, none⟩ = some (.slice Aa a.ks.length ca)))
    (first | exact ⟨E.out.pb.cells.1, Ha.out.keep E.out.bel hg⟩ | exact ⟨(E.out.set _ _ _).pb.cells.1, Ha.out.keep (E.out.set _ _ _).bel hg⟩)
    (first
        | (go_at_call 86; refine (equality_any (RX w) a a Aa Aa ca ca _ E.out.hX (E.out.ft a Aa ca (by simp)) (E.out.ft a Aa ca (by simp))).mono ?_; rintro e5 w5 ⟨R0, r0, rfl, h5, hb5⟩; replace E := Lib.hid ((E.out.keep hb5).more h5); have f0 := E.out.froz 0; have f1 := E.out.froz 1; have f2 := E.out.froz 2; obtain ⟨u5, v5, y5, hr5⟩ := E.out.rb; obtain ⟨s0, s1, s2⟩ := hr5.cells; clear hb5 h5 hr5))
  all_goals go_wp2_with fail
  all_goals
    obtain ⟨q0, q1, q2⟩ := (E.out.res (.int .i64 (eqT a a).k) (.int .i64 (eqT a a).i) (.slice R0 (eqT a a).ks.length r0)).cells
    exact bodyPost_ret (v := .tuple #[.agg #[.int .i64 (eqT a a).k, .int .i64 (eqT a a).i, .slice R0 (eqT a a).ks.length r0], .int .i64 0]) (by simp [results, Tryz.results46, go_sem, q0, q1, q2]) rfl ⟨R0, r0, rfl, ((E.out.ft (eqT a a) R0 r0 (by simp)).set3 rfl _ _ _).isT, (E.out.set _ _ _).bel⟩
set_option maxHeartbeats 8000000 in
set_option maxRecDepth 100000 in
theorem fill7_any (a b d e : Tr) (A : Option Addr) (c : Nat) (x : Int) (w : World) (hl : IsT w w.heap.size (.node 0 0 [a, b, d, e]) A c) :
    Calls Tryz.prog 47 #[.agg #[.slice A 4 c, .int .i64 x]] w (FillP w (impT (eqT a b) (impT d e)) 0) := by
  obtain ⟨g, o, Aa, ca, Ab, cb, Ad, cd, Ae, ce, rfl, hg, ⟨ha, hb, hd, he⟩, ⟨ta, tb, td, te⟩, hcn⟩ := kids4 hl
  have F1 := Lib.hid (FE.start w (some ⟨g, o, none⟩) 4 c x).drew
  have Ha := Lib.hid ha
  have Ta := Lib.hid ta
  have Hb := Lib.hid hb
  have Tb := Lib.hid tb
  have Hd := Lib.hid hd
  have Td := Lib.hid td
  have He := Lib.hid he
  have Te := Lib.hid te
  have E := Lib.hid ((((F1.out.more (FrT.ofB Ta.out (fun k hk => by unfold RX at hk; omega) F1.out.bel)).more (FrT.ofB Tb.out (fun k hk => by unfold RX at hk; omega) F1.out.bel)).more (FrT.ofB Td.out (fun k hk => by unfold RX at hk; omega) F1.out.bel)).more (FrT.ofB Te.out (fun k hk => by unfold RX at hk; omega) F1.out.bel))
  have f0 := E.out.froz 0
  have f1 := E.out.froz 1
  have f2 := E.out.froz 2
  clear hl F1 ha hb hd he ta tb td te
  go_enter Tryz.func47, Tryz.ntmps47
  go_wp2_with fail
  go_region_held3 (fun w' => w'.cell? ⟨w.heap.size, 0, none⟩ = some (.slice (some ⟨g, o, none⟩) 4 c) ∧ ((w'.cell? ⟨g, o, none⟩ = some (.int .i64 a.k) ∧ w'.cell? ⟨g, o + 1, none⟩ = some (.int .i64 a.i) ∧ w'.cell? ⟨g, o + 2, none⟩ = some (.slice Aa a.ks.length ca)) ∧ ((w'.cell? ⟨g, o + 3, none⟩ = some (.int .i64 b.k) ∧ w'.cell? ⟨g, o + 3 + 1, none⟩ = some (.int .i64 b.i) ∧ w'.cell? ⟨g, o + 3 + 2, none⟩ = some (.slice Ab b.ks.length cb)) ∧ ((w'.cell? ⟨g, o + 6, none⟩ = some (.int .i64 d.k) ∧ w'.cell? ⟨g, o + 6 + 1, none⟩ = some (.int .i64 d.i) ∧ w'.cell? ⟨g, o + 6 + 2, none⟩ = some (.slice Ad d.ks.length cd)) ∧ (w'.cell? ⟨g, o + 9, none⟩ = some (.int .i64 e.k) ∧ w'.cell? ⟨g, o + 9 + 1, none⟩ = some (.int .i64 e.i) ∧ w'.cell? ⟨g, o + 9 + 2, none⟩ = some (.slice Ae e.ks.length ce))))))
    (first | exact ⟨E.out.pb.cells.1, Ha.out.keep E.out.bel hg, Hb.out.keep E.out.bel hg, Hd.out.keep E.out.bel hg, He.out.keep E.out.bel hg⟩ | exact ⟨(E.out.set _ _ _).pb.cells.1, Ha.out.keep (E.out.set _ _ _).bel hg, Hb.out.keep (E.out.set _ _ _).bel hg, Hd.out.keep (E.out.set _ _ _).bel hg, He.out.keep (E.out.set _ _ _).bel hg⟩)
    (first
        | (go_at_call 86; refine (equality_any (RX w) a b Aa Ab ca cb _ E.out.hX (E.out.ft a Aa ca (by simp)) (E.out.ft b Ab cb (by simp))).mono ?_; rintro e5 w5 ⟨R0, r0, rfl, h5, hb5⟩; replace E := Lib.hid ((E.out.keep hb5).more h5); have f0 := E.out.froz 0; have f1 := E.out.froz 1; have f2 := E.out.froz 2; obtain ⟨u5, v5, y5, hr5⟩ := E.out.rb; obtain ⟨s0, s1, s2⟩ := hr5.cells; clear hb5 h5 hr5)
        | (go_at_call 76; refine (imp_any (RX w) d e Ad Ae cd ce _ E.out.hX (E.out.ft d Ad cd (by simp)) (E.out.ft e Ae ce (by simp))).mono ?_; rintro e5 w5 ⟨R1, r1, rfl, h5, hb5⟩; replace E := Lib.hid ((E.out.keep hb5).more h5); have f0 := E.out.froz 0; have f1 := E.out.froz 1; have f2 := E.out.froz 2; obtain ⟨u5, v5, y5, hr5⟩ := E.out.rb; obtain ⟨s0, s1, s2⟩ := hr5.cells; clear hb5 h5 hr5)
        | (go_at_call 76; refine (imp_any (RX w) (eqT a b) (impT d e) R0 R1 r0 r1 _ E.out.hX (E.out.ft (eqT a b) R0 r0 (by simp)) (E.out.ft (impT d e) R1 r1 (by simp))).mono ?_; rintro e5 w5 ⟨R2, r2, rfl, h5, hb5⟩; replace E := Lib.hid ((E.out.keep hb5).more h5); have f0 := E.out.froz 0; have f1 := E.out.froz 1; have f2 := E.out.froz 2; obtain ⟨u5, v5, y5, hr5⟩ := E.out.rb; obtain ⟨s0, s1, s2⟩ := hr5.cells; clear hb5 h5 hr5))
  all_goals go_wp2_with fail
  all_goals
    obtain ⟨q0, q1, q2⟩ := (E.out.res (.int .i64 (impT (eqT a b) (impT d e)).k) (.int .i64 (impT (eqT a b) (impT d e)).i) (.slice R2 (impT (eqT a b) (impT d e)).ks.length r2)).cells
    exact bodyPost_ret (v := .tuple #[.agg #[.int .i64 (impT (eqT a b) (impT d e)).k, .int .i64 (impT (eqT a b) (impT d e)).i, .slice R2 (impT (eqT a b) (impT d e)).ks.length r2], .int .i64 0]) (by simp [results, Tryz.results47, go_sem, q0, q1, q2]) rfl ⟨R2, r2, rfl, ((E.out.ft (impT (eqT a b) (impT d e)) R2 r2 (by simp)).set3 rfl _ _ _).isT, (E.out.set _ _ _).bel⟩
end Go.Proofs.YtgnfbhemkombaaaGreat
