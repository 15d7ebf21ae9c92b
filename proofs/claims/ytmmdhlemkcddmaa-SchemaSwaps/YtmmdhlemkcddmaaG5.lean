/- Swapped of package schema, and the document's. -/
import Derived.Test.YtmmdhlemkcddmaaG4
namespace Go.Proofs.Ytmmdhlemkcddmaa
open Go.RowKit
set_option linter.unusedVariables false
set_option linter.unusedSimpArgs false
abbrev listT (l : List Tr) : Tr := .node 0 0 l
theorem isT_four {Y : World} {r : Nat} {a b t u : Tr} {A B T U : Option Addr} {ca cb ct cu : Nat} (hrow : Y.heap[r]? = some (.cells #[.int .i64 a.k, .int .i64 a.i, .slice A a.ks.length ca, .int .i64 b.k, .int .i64 b.i, .slice B b.ks.length cb, .int .i64 t.k, .int .i64 t.i, .slice T t.ks.length ct, .int .i64 u.k, .int .i64 u.i, .slice U u.ks.length cu] 24 (0, 0)))
    (ia : IsT Y Y.heap.size a A ca) (ib : IsT Y Y.heap.size b B cb) (it : IsT Y Y.heap.size t T ct) (iu : IsT Y Y.heap.size u U cu) : IsT Y Y.heap.size (listT [a, b, t, u]) (some ⟨r, 0, none⟩) 4 := by
  have hr : r < Y.heap.size := (Array.getElem?_eq_some_iff.1 hrow).1
  refine IsT.mk (by simp [Tr.ks]) (by simp [Tr.ks, Cap]) fun m hm => ?_
  have hm2 : m < 4 := hm
  rcases Nat.lt_or_ge m 2 with h | h
  · rcases Nat.lt_or_ge m 1 with h1 | h1
    · obtain rfl : m = 0 := by omega
      exact ⟨r, 0, A, ca, rfl, hr, (cell_at hrow 0).trans rfl, (cell_at hrow 1).trans rfl, (cell_at hrow 2).trans rfl, ia⟩
    · obtain rfl : m = 1 := by omega
      exact ⟨r, 0, B, cb, rfl, hr, (cell_at hrow 3).trans rfl, (cell_at hrow 4).trans rfl, (cell_at hrow 5).trans rfl, ib⟩
  · rcases Nat.lt_or_ge m 3 with h1 | h1
    · obtain rfl : m = 2 := by omega
      exact ⟨r, 0, T, ct, rfl, hr, (cell_at hrow 6).trans rfl, (cell_at hrow 7).trans rfl, (cell_at hrow 8).trans rfl, it⟩
    · obtain rfl : m = 3 := by omega
      exact ⟨r, 0, U, cu, rfl, hr, (cell_at hrow 9).trans rfl, (cell_at hrow 10).trans rfl, (cell_at hrow 11).trans rfl, iu⟩
def sorts4 : List Bool := [false, false, true, true]
def swN (a b t u : Tr) : Nat := sortedN [a, b, t, u] sorts4
def swV (a b t u : Tr) : Bool := if swN a b t u = 0 then swpT t u (varsT t ||| varsT u) a b true else false
theorem sorted_zero {ks : List Tr} {cs : List Bool} (h : sortedN ks cs = 0) : firstL ks = 0 ∧ sortsB ks cs = true := by
  unfold sortedN at h
  split at h
  · rename_i h1; exact absurd h h1
  · rename_i h1
    split at h
    · rename_i h2; exact ⟨by simpa using h1, h2⟩
    · cases h
theorem swN_right {a b t u : Tr} (h : swN a b t u = 0) : (rightN a = 0 ∧ rightN b = 0) ∧ rightN t = 0 ∧ rightN u = 0 := by
  have := firstL_zero (sorted_zero h).1
  exact ⟨⟨this a (by simp), this b (by simp)⟩, this t (by simp), this u (by simp)⟩
theorem names4 : Names ⟨#[102, 102, 116, 116]⟩ sorts4 := by
  intro m h
  have hm : m < 4 := h
  rcases Nat.lt_or_ge m 2 with h1 | h1
  · rcases Nat.lt_or_ge m 1 with h2 | h2
    · obtain rfl : m = 0 := by omega
      rfl
    · obtain rfl : m = 1 := by omega
      rfl
  · rcases Nat.lt_or_ge m 3 with h2 | h2
    · obtain rfl : m = 2 := by omega
      rfl
    · obtain rfl : m = 3 := by omega
      rfl
theorem names4_size : (⟨#[102, 102, 116, 116]⟩ : ByteArray).size = 4 := rfl
theorem row4 {w W : World} {a b t u : Tr} {A B T U : Option Addr} {ca cb ct cu : Nat} (E : Env w W [(w.heap.size + 3, u, U, cu), (w.heap.size + 2, t, T, ct), (w.heap.size + 1, b, B, cb), (w.heap.size, a, A, ca)]) (g : Nat) (hg : g = W.heap.size) :
    IsT (W.alloc (.cells #[.int .i64 a.k, .int .i64 a.i, .slice A a.ks.length ca, .int .i64 b.k, .int .i64 b.i, .slice B b.ks.length cb, .int .i64 t.k, .int .i64 t.i, .slice T t.ks.length ct, .int .i64 u.k, .int .i64 u.i, .slice U u.ks.length cu] 24))
      (W.alloc (.cells #[.int .i64 a.k, .int .i64 a.i, .slice A a.ks.length ca, .int .i64 b.k, .int .i64 b.i, .slice B b.ks.length cb, .int .i64 t.k, .int .i64 t.i, .slice T t.ks.length ct, .int .i64 u.k, .int .i64 u.i, .slice U u.ks.length cu] 24)).heap.size (listT [a, b, t, u]) (some ⟨g, 0, none⟩) 4 := by
  subst hg
  have E1 := E.keep (alB W (.cells #[.int .i64 a.k, .int .i64 a.i, .slice A a.ks.length ca, .int .i64 b.k, .int .i64 b.i, .slice B b.ks.length cb, .int .i64 t.k, .int .i64 t.i, .slice T t.ks.length ct, .int .i64 u.k, .int .i64 u.i, .slice U u.ks.length cu] 24))
  exact isT_four (new_at W _) (E1.tree w.heap.size a A ca (by simp)) (E1.tree (w.heap.size + 1) b B cb (by simp)) (E1.tree (w.heap.size + 2) t T ct (by simp)) (E1.tree (w.heap.size + 3) u U cu (by simp))
set_option maxHeartbeats 4000000 in
set_option maxRecDepth 100000 in
theorem rswapped_any (a b t u : Tr) (A B T U : Option Addr) (ca cb ct cu : Nat) (w : World) (ha : IsT w w.heap.size a A ca) (hb : IsT w w.heap.size b B cb) (ht : IsT w w.heap.size t T ct) (hu : IsT w w.heap.size u U cu) :
    Calls Try.prog 13 #[.agg #[.int .i64 a.k, .int .i64 a.i, .slice A a.ks.length ca], .agg #[.int .i64 b.k, .int .i64 b.i, .slice B b.ks.length cb], .agg #[.int .i64 t.k, .int .i64 t.i, .slice T t.ks.length ct], .agg #[.int .i64 u.k, .int .i64 u.i, .slice U u.ks.length cu]] w fun e w' => e = .returned (.tuple #[.bool (swV a b t u), .int .i64 (swN a b t u : Nat)]) ∧ Below w.heap.size w w' := by
  have E0 := Lib.hid (env4 ha hb ht hu)
  obtain ⟨u0, u1, u2⟩ := E0.out.cells (w.heap.size + 3) u U cu (by simp)
  obtain ⟨t0, t1, t2⟩ := E0.out.cells (w.heap.size + 2) t T ct (by simp)
  obtain ⟨b0, b1, b2⟩ := E0.out.cells (w.heap.size + 1) b B cb (by simp)
  obtain ⟨a0, a1, a2⟩ := E0.out.cells w.heap.size a A ca (by simp)
  have R0 := Lib.hid (row4 E0.out (w.heap.size + 1 + 1 + 1 + 1) (by simp))
  clear ha hb ht hu
  go_enter Try.func13, Try.ntmps13
  go_wp2_with fail
  refine (rsorted_any (listT [a, b, t, u]) _ 4 ⟨#[102, 102, 116, 116]⟩ sorts4 _ (by exact R0.out) names4_size names4).mono ?_
  rintro e w1 ⟨rfl, hb1⟩
  have E1 := Lib.hid ((E0.out.keep (alB _ _)).keep hb1)
  clear hb1 u0 u1 u2 t0 t1 t2 b0 b1 b2 a0 a1 a2 R0 E0
  rw [show sortedN (listT [a, b, t, u]).ks sorts4 = swN a b t u from rfl]
  have SV := Lib.hid (show swV a b t u = if swN a b t u = 0 then swpT t u (varsT t ||| varsT u) a b true else false from rfl)
  obtain ⟨n, hn⟩ : ∃ n, n = swN a b t u := ⟨_, rfl⟩
  rw [← hn] at SV ⊢
  have HN := Lib.hid hn
  clear hn
  by_cases h0 : n = 0
  · subst h0
    rw [if_pos rfl] at SV
    have U1 := Lib.hid (varsT_U t)
    have U2 := Lib.hid (varsT_U u)
    have UU := Lib.hid (show U64 (varsT t ||| varsT u) from Nat.or_lt_two_pow (varsT_U t) (varsT_U u))
    go_wp2_with fail
    have T' := E1.out.keep ((Below.refl _ _).drew)
    go_region_held3 (fun w' => (w'.cell? ⟨w.heap.size + 2, 0, none⟩ = some (.int .i64 t.k) ∧ w'.cell? ⟨w.heap.size + 2, 1, none⟩ = some (.int .i64 t.i) ∧ w'.cell? ⟨w.heap.size + 2, 2, none⟩ = some (.slice T t.ks.length ct)) ∧ (w'.cell? ⟨w.heap.size + 3, 0, none⟩ = some (.int .i64 u.k) ∧ w'.cell? ⟨w.heap.size + 3, 1, none⟩ = some (.int .i64 u.i) ∧ w'.cell? ⟨w.heap.size + 3, 2, none⟩ = some (.slice U u.ks.length cu)))
      (exact ⟨T'.cells (w.heap.size + 2) t T ct (by simp), T'.cells (w.heap.size + 3) u U cu (by simp)⟩)
      (first
        | (go_at_call 35; (first | refine (rofvars_any t T ct _ (by exact T'.tree (w.heap.size + 2) t T ct (by simp))).mono ?_ | refine (rofvars_any u U cu _ (by exact T'.tree (w.heap.size + 3) u U cu (by simp))).mono ?_); rintro e w11 ⟨rfl, hb11⟩; replace T' := T'.keep hb11; clear hb11)
        | (go_at_call 33; refine (runion_any (varsT t) (varsT u) _ U1.out U2.out).mono ?_; rintro e w12 ⟨rfl, hw12⟩; rw [← hw12]; clear hw12))
    all_goals
      have E3 := Lib.hid T'
      obtain ⟨u0, u1, u2⟩ := E3.out.cells (w.heap.size + 3) u U cu (by simp)
      obtain ⟨t0, t1, t2⟩ := E3.out.cells (w.heap.size + 2) t T ct (by simp)
      obtain ⟨b0, b1, b2⟩ := E3.out.cells (w.heap.size + 1) b B cb (by simp)
      obtain ⟨a0, a1, a2⟩ := E3.out.cells w.heap.size a A ca (by simp)
      go_wp2_with fail
      refine (rswap_any t u (varsT t ||| varsT u) UU.out a.sz a b A B T U ca cb ct cu true _ (Nat.le_refl _) (by exact E3.out.tree w.heap.size a A ca (by simp)) (by exact E3.out.tree (w.heap.size + 1) b B cb (by simp)) (by exact E3.out.tree (w.heap.size + 2) t T ct (by simp)) (by exact E3.out.tree (w.heap.size + 3) u U cu (by simp))).mono ?_
      rintro e w4 ⟨rfl, hb4⟩
      have E4 := Lib.hid (E3.out.keep hb4)
      clear hb4
      go_wp2_with fail
      go_ret2
      exact ⟨by rw [SV.out, ← HN.out]; rfl, E4.out.below⟩
  · have h1 : ((n : Int) != 0) = true := by rw [bne_iff_ne]; omega
    rw [if_neg h0] at SV
    clear h0
    go_wp2_with fail
    go_ret2
    exact ⟨by rw [SV.out, ← HN.out]; rfl, E1.out.below⟩
theorem sorts_new {W : World} (g : Nat) (hg : g = W.heap.size) : SortsAt (W.alloc (.cells #[.func (.func 38) #[] #[], .func (.func 38) #[] #[], .func (.func 39) #[] #[], .func (.func 39) #[] #[]] 103)) (W.alloc (.cells #[.func (.func 38) #[] #[], .func (.func 38) #[] #[], .func (.func 39) #[] #[], .func (.func 39) #[] #[]] 103)).heap.size (some ⟨g, 0, none⟩) sorts4 := by
  subst hg
  have h : ∀ j, (W.alloc (.cells #[.func (.func 38) #[] #[], .func (.func 38) #[] #[], .func (.func 39) #[] #[], .func (.func 39) #[] #[]] 103)).cell? ⟨W.heap.size, j, none⟩ = (#[.func (.func 38) #[] #[], .func (.func 38) #[] #[], .func (.func 39) #[] #[], .func (.func 39) #[] #[]] : Array Value)[j]? := by
    intro j
    unfold World.cell?
    rw [new_at W _]
    rfl
  intro j hj
  have hj4 : j < 4 := hj
  refine ⟨W.heap.size, 0, rfl, by simp, ?_⟩
  rcases Nat.lt_or_ge j 2 with h1 | h1
  · rcases Nat.lt_or_ge j 1 with h2 | h2
    · obtain rfl : j = 0 := by omega
      exact h 0
    · obtain rfl : j = 1 := by omega
      exact h 1
  · rcases Nat.lt_or_ge j 3 with h2 | h2
    · obtain rfl : j = 2 := by omega
      exact h 2
    · obtain rfl : j = 3 := by omega
      exact h 3
theorem SortsAt.keep {w w' : World} {B B' : Nat} {A : Option Addr} {cs : List Bool} (h : SortsAt w B A cs) (hb : Below B w w') (hB : B ≤ B') : SortsAt w' B' A cs := fun j hj => by
  obtain ⟨b, o, e, hlt, hc⟩ := h j hj
  exact ⟨b, o, e, by omega, (hb.cell hlt).trans hc⟩
set_option maxHeartbeats 4000000 in
set_option maxRecDepth 100000 in
theorem sswapped_any (a b t u : Tr) (A B T U : Option Addr) (ca cb ct cu : Nat) (w : World) (ha : IsT w w.heap.size a A ca) (hb : IsT w w.heap.size b B cb) (ht : IsT w w.heap.size t T ct) (hu : IsT w w.heap.size u U cu) :
    Calls Try.prog 12 #[.agg #[.int .i64 a.k, .int .i64 a.i, .slice A a.ks.length ca], .agg #[.int .i64 b.k, .int .i64 b.i, .slice B b.ks.length cb], .agg #[.int .i64 t.k, .int .i64 t.i, .slice T t.ks.length ct], .agg #[.int .i64 u.k, .int .i64 u.i, .slice U u.ks.length cu]] w fun e w' => e = .returned (.tuple #[.bool (swV a b t u), .int .i64 (swN a b t u : Nat)]) ∧ Below w.heap.size w w' := by
  have E00 := env4 ha hb ht hu
  have E0 := Lib.hid (E00.keep (alB _ (.cells #[.func (.func 38) #[] #[], .func (.func 38) #[] #[], .func (.func 39) #[] #[], .func (.func 39) #[] #[]] 103)))
  obtain ⟨u0, u1, u2⟩ := E0.out.cells (w.heap.size + 3) u U cu (by simp)
  obtain ⟨t0, t1, t2⟩ := E0.out.cells (w.heap.size + 2) t T ct (by simp)
  obtain ⟨b0, b1, b2⟩ := E0.out.cells (w.heap.size + 1) b B cb (by simp)
  obtain ⟨a0, a1, a2⟩ := E0.out.cells w.heap.size a A ca (by simp)
  have R0 := Lib.hid (row4 E0.out (w.heap.size + 1 + 1 + 1 + 1 + 1) (by simp))
  have so1 := (sorts_new (g := w.heap.size + 1 + 1 + 1 + 1) (hg := by simp) (W := ((((w.alloc (.cells #[.int .i64 a.k, .int .i64 a.i, .slice A a.ks.length ca] 24)).alloc (.cells #[.int .i64 b.k, .int .i64 b.i, .slice B b.ks.length cb] 24)).alloc (.cells #[.int .i64 t.k, .int .i64 t.i, .slice T t.ks.length ct] 24)).alloc (.cells #[.int .i64 u.k, .int .i64 u.i, .slice U u.ks.length cu] 24))))
  have so2 := alB ((((((w.alloc (.cells #[.int .i64 a.k, .int .i64 a.i, .slice A a.ks.length ca] 24)).alloc (.cells #[.int .i64 b.k, .int .i64 b.i, .slice B b.ks.length cb] 24)).alloc (.cells #[.int .i64 t.k, .int .i64 t.i, .slice T t.ks.length ct] 24)).alloc (.cells #[.int .i64 u.k, .int .i64 u.i, .slice U u.ks.length cu] 24)).alloc (.cells #[.func (.func 38) #[] #[], .func (.func 38) #[] #[], .func (.func 39) #[] #[], .func (.func 39) #[] #[]] 103))) (.cells #[.int .i64 a.k, .int .i64 a.i, .slice A a.ks.length ca, .int .i64 b.k, .int .i64 b.i, .slice B b.ks.length cb, .int .i64 t.k, .int .i64 t.i, .slice T t.ks.length ct, .int .i64 u.k, .int .i64 u.i, .slice U u.ks.length cu] 24)
  have SO := Lib.hid (so1.keep so2 so2.size)
  clear so1 so2
  clear ha hb ht hu E00
  go_enter Try.func12, Try.ntmps12
  go_wp2_with fail
  refine (listFault_any (listT [a, b, t, u]) _ _ 4 4 sorts4 _ (by exact R0.out) rfl (by exact SO.out)).mono ?_
  rintro e w1 ⟨rfl, hb1⟩
  have E1 := Lib.hid ((E0.out.keep (alB _ _)).keep hb1)
  clear hb1 u0 u1 u2 t0 t1 t2 b0 b1 b2 a0 a1 a2 R0 E0 SO
  rw [show sortedN (listT [a, b, t, u]).ks sorts4 = swN a b t u from rfl]
  have SV := Lib.hid (show swV a b t u = if swN a b t u = 0 then swpT t u (varsT t ||| varsT u) a b true else false from rfl)
  have RR := Lib.hid (swN_right (a := a) (b := b) (t := t) (u := u))
  obtain ⟨n, hn⟩ : ∃ n, n = swN a b t u := ⟨_, rfl⟩
  rw [← hn] at SV RR ⊢
  have HN := Lib.hid hn
  clear hn
  by_cases h0 : n = 0
  · subst h0
    rw [if_pos rfl] at SV
    have RS := Lib.hid (RR.out rfl)
    obtain ⟨u0, u1, u2⟩ := E1.out.cells (w.heap.size + 3) u U cu (by simp)
    obtain ⟨t0, t1, t2⟩ := E1.out.cells (w.heap.size + 2) t T ct (by simp)
    obtain ⟨b0, b1, b2⟩ := E1.out.cells (w.heap.size + 1) b B cb (by simp)
    obtain ⟨a0, a1, a2⟩ := E1.out.cells w.heap.size a A ca (by simp)
    go_wp2_with fail
    refine (swapped_any a b t u A B T U ca cb ct cu _ RS.out.1.1 RS.out.1.2 RS.out.2.1 RS.out.2.2 (by exact E1.out.tree w.heap.size a A ca (by simp)) (by exact E1.out.tree (w.heap.size + 1) b B cb (by simp)) (by exact E1.out.tree (w.heap.size + 2) t T ct (by simp)) (by exact E1.out.tree (w.heap.size + 3) u U cu (by simp))).mono ?_
    rintro e w4 ⟨rfl, hb4⟩
    have E4 := Lib.hid (E1.out.keep hb4)
    clear hb4
    go_wp2_with fail
    go_ret2
    exact ⟨by rw [SV.out, ← HN.out]; rfl, E4.out.below⟩
  · have h1 : ((n : Int) != 0) = true := by rw [bne_iff_ne]; omega
    rw [if_neg h0] at SV
    clear h0
    go_wp2_with fail
    go_ret2
    exact ⟨by rw [SV.out, ← HN.out]; rfl, E1.out.below⟩
end Go.Proofs.Ytmmdhlemkcddmaa
