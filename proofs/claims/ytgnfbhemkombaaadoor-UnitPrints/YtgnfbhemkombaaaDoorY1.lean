/- A number, a tree's kids, as package parse's printer meets them. -/
import Derived.Test.YtgnfbhemkombaaaDoorY0
import Derived.Test.YtgnfbhemkombaaaDoorYS
import Derived.Test.YtgnfbhemkombaaaDoorT22
namespace Go.Proofs.YtgnfbhemkombaaaDoor
open Go.RowKit
set_option linter.unusedVariables false
set_option linter.unusedSimpArgs false
/-- the three cells of a node in a row -/
structure CelY (w : World) (g o : Nat) (t : Tr) (A : Option Addr) (c : Nat) : Prop where
  c0 : w.cell? ⟨g, o, none⟩ = some (.int .i64 t.k)
  c1 : w.cell? ⟨g, o + 1, none⟩ = some (.int .i64 t.i)
  c2 : w.cell? ⟨g, o + 2, none⟩ = some (.slice A t.ks.length c)
theorem CelY.keep {w w' : World} {g o B : Nat} {t : Tr} {A : Option Addr} {c : Nat} (h : CelY w g o t A c) (hb : Below B w w') (hg : g < B) : CelY w' g o t A c := ⟨(hb.cell hg).trans h.c0, (hb.cell hg).trans h.c1, (hb.cell hg).trans h.c2⟩
theorem kidsY2 {w : World} {B : Nat} {k i : Int} {a b : Tr} {A : Option Addr} {c : Nat} (h : IsT w B (.node k i [a, b]) A c) : ∃ g o Aa ca Ab cb, A = some ⟨g, o, none⟩ ∧ g < B ∧ CelY w g o a Aa ca ∧ CelY w g (o + 3) b Ab cb ∧ IsT w B a Aa ca ∧ IsT w B b Ab cb ∧ 2 ≤ c := by
  obtain ⟨g, o, Aa, ca, hA, hg, a0, a1, a2, ta⟩ := h.kid 0 (by simp [Tr.ks])
  obtain ⟨g', o', Ab, cb, hA', hg', b0, b1, b2, tb⟩ := h.kid 1 (by simp [Tr.ks])
  rw [hA] at hA'
  cases hA'
  replace a0 : w.cell? ⟨g, o + 0 * 3, none⟩ = some (.int .i64 a.k) := a0
  replace a1 : w.cell? ⟨g, o + 0 * 3 + 1, none⟩ = some (.int .i64 a.i) := a1
  replace a2 : w.cell? ⟨g, o + 0 * 3 + 2, none⟩ = some (.slice Aa a.ks.length ca) := a2
  replace b0 : w.cell? ⟨g, o + 1 * 3, none⟩ = some (.int .i64 b.k) := b0
  replace b1 : w.cell? ⟨g, o + 1 * 3 + 1, none⟩ = some (.int .i64 b.i) := b1
  replace b2 : w.cell? ⟨g, o + 1 * 3 + 2, none⟩ = some (.slice Ab b.ks.length cb) := b2
  exact ⟨g, o, Aa, ca, Ab, cb, hA, hg, ⟨by simpa using a0, by simpa using a1, by simpa using a2⟩, ⟨by simpa using b0, by simpa using b1, by simpa using b2⟩, ta, tb, h.len.1⟩
theorem kidsY1 {w : World} {B : Nat} {k i : Int} {a : Tr} {A : Option Addr} {c : Nat} (h : IsT w B (.node k i [a]) A c) : ∃ g o Aa ca, A = some ⟨g, o, none⟩ ∧ g < B ∧ CelY w g o a Aa ca ∧ IsT w B a Aa ca ∧ 1 ≤ c := by
  obtain ⟨g, o, Aa, ca, hA, hg, a0, a1, a2, ta⟩ := h.kid 0 (by simp [Tr.ks])
  replace a0 : w.cell? ⟨g, o + 0 * 3, none⟩ = some (.int .i64 a.k) := a0
  replace a1 : w.cell? ⟨g, o + 0 * 3 + 1, none⟩ = some (.int .i64 a.i) := a1
  replace a2 : w.cell? ⟨g, o + 0 * 3 + 2, none⟩ = some (.slice Aa a.ks.length ca) := a2
  exact ⟨g, o, Aa, ca, hA, hg, ⟨by simpa using a0, by simpa using a1, by simpa using a2⟩, ta, h.len.1⟩
set_option maxHeartbeats 1000000 in
theorem wnum (B b : Nat) (l : List UInt8) (c : UInt8) (v : Int) (hv : v = (c.toNat : Int)) (i : Int) (i0 : 0 ≤ i) (i1 : i ≤ 99) (w : World) (hu : BU B b l w) (hl : l.length ≤ 100000) (hB : B ≤ w.heap.size) :
    Calls Tryd.prog 92 #[.pointer (some ⟨b, 0, none⟩), .int .u8 v, .int .i64 i] w (WrI w B b (l ++ ([c] ++ decT i))) := by
  obtain ⟨n, rfl⟩ : ∃ n : Nat, i = n := ⟨i.toNat, by omega⟩
  have HN := Lib.hid (show n < 100 by omega)
  have HD := Lib.hid (show (Lib.decDigits n).length ≤ 2 from dec_short n (by omega))
  have HU := Lib.hid hu
  have HL := Lib.hid hl
  have HB := Lib.hid hB
  have HV := Lib.hid hv
  clear hu hl hB hv i0 i1
  go_enter Tryd.func92, Tryd.ntmps92
  go_wp2_with fail
  refine (wbyte B b l c v HV.out _ HU.out (by have := HL.out; omega) HB.out).mono ?_
  rintro e w1 ⟨rfl, h1, k1⟩
  have U1 := Lib.hid h1
  have K1 := Lib.hid k1
  clear h1 k1
  go_wp2_with fail
  refine (Tryd.strconv_Itoa_small n HN.out _).mono ?_
  rintro e w2 ⟨rfl, hw2⟩
  subst hw2
  go_wp2_with fail
  refine (wstr B b (l ++ [c]) (Lib.decDigits n) _ rfl _ U1.out (by have := HL.out; have := HD.out; simp; omega) (Nat.le_trans HB.out K1.out.size)).mono ?_
  rintro e w3 ⟨m, rfl, h3, k3⟩
  have U3 := Lib.hid h3
  have K3 := Lib.hid (K1.out.trans k3)
  clear h3 k3
  go_wp2_with fail
  go_end0
  exact ⟨rfl, by simpa [decT] using U3.out, K3.out⟩
end Go.Proofs.YtgnfbhemkombaaaDoor
