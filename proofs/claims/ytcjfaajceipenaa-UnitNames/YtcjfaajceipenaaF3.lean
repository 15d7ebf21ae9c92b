/- The document's IsFree, caught, Vars, Free, Bound, NotFree (layer 4). -/
import Derived.Test.YtcjfaajceipenaaF2
namespace Go.Proofs.Ytcjfaajceipenaa
open Go.RowKit
set_option linter.unusedVariables false
set_option linter.unusedSimpArgs false
set_option maxHeartbeats 1000000 in
theorem risfree_any (x : Int) (t : Tr) (A : Option Addr) (c : Nat) (w : World) (ht : IsT w w.heap.size t A c) :
    Calls Try.prog 21 #[.int .i64 x, .agg #[.int .i64 t.k, .int .i64 t.i, .slice A t.ks.length c]] w fun e w' => e = .returned (.bool (hasN (freeT t) x)) ∧ Below w.heap.size w w' := by
  have T0 := Lib.hid (One.new ht)
  have U1 := Lib.hid (freeT_U t)
  obtain ⟨y0, y1, y2⟩ := And.intro T0.out.b0 (And.intro T0.out.b1 T0.out.b2)
  clear ht
  go_enter Try.func21, Try.ntmps21
  go_wp2_with fail
  refine (roffree_any t.sz t A c _ (Nat.le_refl _) (by exact T0.out.tree)).mono ?_
  rintro e w1 ⟨rfl, hb1⟩
  have T1 := Lib.hid (T0.out.keep hb1)
  clear hb1
  go_wp2_with fail
  refine (rhas_any (freeT t) x _ U1.out).mono ?_
  rintro e w3 ⟨rfl, hw3⟩
  rw [← hw3]
  clear hw3
  go_wp2_with fail
  go_ret
  exact ⟨rfl, T1.out.below⟩
/-- what is answered of a tree: the set, if it is right -/
def valR (f : Tr → Nat) (t : Tr) : Nat := if rightN t = 0 then f t else 0
theorem valR_ok {f : Tr → Nat} {t : Tr} (h : rightN t = 0) : valR f t = f t := by unfold valR; rw [if_pos h]
theorem valR_bad {f : Tr → Nat} {t : Tr} (h : ¬ rightN t = 0) : valR f t = 0 := by unfold valR; rw [if_neg h]
set_option maxHeartbeats 4000000 in
set_option maxRecDepth 100000 in
theorem rcaught_any (own : Nat) (x : Int) (hown : U64 own) : ∀ (N : Nat) (t : Tr) (A : Option Addr) (c : Nat) (w : World), t.sz ≤ N → IsT w w.heap.size t A c →
    Calls Try.prog 95 #[.int .u64 own, .int .i64 x, .agg #[.int .i64 t.k, .int .i64 t.i, .slice A t.ks.length c]] w fun e w' => e = .returned (.int .u64 (catT own x t : Nat)) ∧ Below w.heap.size w w' := by
  intro N
  induction N with
  | zero => intro t A c w h; have := sz_pos t; omega
  | succ N ih =>
    intro t A c w hN ht
    have IH := Lib.hid ih
    have HU := Lib.hid hown
    have E := Lib.hid (catT_eq own x t)
    have hl := ht.len
    clear ih hown
    cases hf : hasN (freeT t) x with
    | false =>
      have F := Lib.hid (show catT own x t = 0 by rw [E.out, hf]; rfl)
      have T0 := Lib.hid (One.new ht)
      obtain ⟨y0, y1, y2⟩ := And.intro T0.out.b0 (And.intro T0.out.b1 T0.out.b2)
      clear ht
      go_enter Try.func95, Try.ntmps95
      go_wp2_with fail
      refine (risfree_any x t A c _ (by exact T0.out.tree)).mono ?_
      rintro e w1 ⟨rfl, hb1⟩
      rw [hf]
      have T1 := Lib.hid (T0.out.keep hb1)
      obtain ⟨z0, z1, z2⟩ := And.intro T1.out.b0 (And.intro T1.out.b1 T1.out.b2)
      clear hb1 y0 y1 y2
      go_wp2_with fail
      go_ret
      exact ⟨ret_intw (by rw [F.out]; rfl), T1.out.below⟩
    | true =>
      by_cases hq : t.k = 7 ∨ t.k = 10
      · cases hh : hasN own t.i with
        | true =>
          have F := Lib.hid (show catT own x t = withN 0 t.i ||| catL own x t.ks by rw [E.out, if_pos hf, if_pos ⟨hq, hh⟩])
          have BU := Lib.hid (show U64 (withN 0 t.i) from withU _ zero_U)
          have T0 := Lib.hid (One.new ht)
          obtain ⟨y0, y1, y2⟩ := And.intro T0.out.b0 (And.intro T0.out.b1 T0.out.b2)
          clear ht
          go_enter Try.func95, Try.ntmps95
          go_wp2_with fail
          refine (risfree_any x t A c _ (by exact T0.out.tree)).mono ?_
          rintro e w1 ⟨rfl, hb1⟩
          rw [hf]
          have T1 := Lib.hid (T0.out.keep hb1)
          obtain ⟨z0, z1, z2⟩ := And.intro T1.out.b0 (And.intro T1.out.b1 T1.out.b2)
          clear hb1 y0 y1 y2
          go_wp2_with fail
          refine (rquantified_any t.k t.i A t.ks.length c _).mono ?_
          rintro e w2 ⟨rfl, hb2⟩
          rw [decide_eq_true hq]
          have T2 := Lib.hid (T1.out.keep hb2)
          obtain ⟨y0, y1, y2⟩ := And.intro T2.out.b0 (And.intro T2.out.b1 T2.out.b2)
          clear hb2 z0 z1 z2
          go_wp2_with fail
          refine (rhas_any own t.i _ HU.out).mono ?_
          rintro e w3 ⟨rfl, hw3⟩
          rw [← hw3]
          clear hw3
          rw [hh]
          go_wp2_with fail
          refine (rpow_any t.i _).mono ?_
          rintro e w3 ⟨rfl, hw3⟩
          rw [← hw3]
          clear hw3
          go_wp2_with fail
          have TS := Lib.hid T2.out
          go_loopw [7, 29] (fun s i wr => ∃ m : Nat, m ≤ t.ks.length ∧ i = .int .i64 m ∧ s = .int .u64 ((withN 0 t.i ||| catL own x (t.ks.take m) : Nat) : Int) ∧ One w wr t A c) (fun _ i _ => t.ks.length - (intOf i).toNat)
          case atStart => exact ⟨0, Nat.zero_le _, rfl, by simp [catL_nil], TS.out⟩
          case round =>
            obtain ⟨m, hm', rfl, rfl, hO⟩ := hrel
            have U0 := Lib.hid (show U64 (withN 0 t.i ||| catL own x (t.ks.take m)) from Nat.or_lt_two_pow BU.out (catL_U own x _))
            have HO := Lib.hid hO
            have hbr := hO.below
            clear hO TS
            by_cases hlt : m < t.ks.length
            · obtain ⟨b, o, A', c', rfl, hlt', c0, c1, c2, hk⟩ := HO.out.tree.kid m hlt
              have S := Lib.hid (catL_take own x t.ks m hlt)
              have kz := kid_sz t m hlt
              obtain ⟨q, hq'⟩ : ∃ q, q = t.ks[m] := ⟨_, rfl⟩
              rw [← hq'] at c0 c1 c2 hk kz S
              clear hq'
              have ha : ∀ o, Below wr.heap.size wr (wr.alloc o) := fun o => (Below.refl _ _).alloc (Nat.le_refl _) _
              have HK := Lib.hid (fun o => hk.keep (ha o) (ha o).size)
              have QU := Lib.hid (catT_U own x q)
              have NX := Lib.hid (show (withN 0 t.i ||| catL own x (t.ks.take m)) ||| catT own x q = withN 0 t.i ||| catL own x (t.ks.take (m + 1)) by rw [S.out, Nat.or_assoc])
              obtain ⟨s, hs⟩ : ∃ s, s = withN 0 t.i ||| catL own x (t.ks.take m) := ⟨_, rfl⟩
              rw [← hs] at NX U0 ⊢
              have HA := Lib.hid ha
              clear hk hs S ha
              go_wp2_with fail
              refine (IH.out q A' c' _ (by omega) (by exact HK.out _)).mono ?_
              rintro e w' ⟨rfl, hb2⟩
              have HO2 := Lib.hid ((HO.out.keep (HA.out _)).keep hb2)
              clear hb2
              go_wp2_with fail
              refine (runion_any s (catT own x q) _ U0.out QU.out).mono ?_
              rintro e w9 ⟨rfl, hw9⟩
              rw [← hw9]
              clear hw9
              rw [NX.out]
              go_wp2_with fail
              go_roundw
              case rel => exact ⟨m + 1, by omega, by go_num, by first | rfl | simp, HO2.out⟩
              case measure => simp [intOf]; omega
            · obtain rfl : m = t.ks.length := by omega
              rw [List.take_length] at U0 ⊢
              obtain ⟨s, hs⟩ : ∃ s, s = withN 0 t.i ||| catL own x t.ks := ⟨_, rfl⟩
              rw [← hs] at F ⊢
              clear hs
              go_wp2_with fail
              go_ret
              exact ⟨ret_intw (by rw [F.out]), hbr⟩
        | false =>
          have F := Lib.hid (show catT own x t = 0 ||| catL own x t.ks by rw [E.out, if_pos hf, if_neg (by rw [hh]; simp)])
          have BU := Lib.hid (show U64 0 from zero_U)
          have T0 := Lib.hid (One.new ht)
          obtain ⟨y0, y1, y2⟩ := And.intro T0.out.b0 (And.intro T0.out.b1 T0.out.b2)
          clear ht
          go_enter Try.func95, Try.ntmps95
          go_wp2_with fail
          refine (risfree_any x t A c _ (by exact T0.out.tree)).mono ?_
          rintro e w1 ⟨rfl, hb1⟩
          rw [hf]
          have T1 := Lib.hid (T0.out.keep hb1)
          obtain ⟨z0, z1, z2⟩ := And.intro T1.out.b0 (And.intro T1.out.b1 T1.out.b2)
          clear hb1 y0 y1 y2
          go_wp2_with fail
          refine (rquantified_any t.k t.i A t.ks.length c _).mono ?_
          rintro e w2 ⟨rfl, hb2⟩
          rw [decide_eq_true hq]
          have T2 := Lib.hid (T1.out.keep hb2)
          obtain ⟨y0, y1, y2⟩ := And.intro T2.out.b0 (And.intro T2.out.b1 T2.out.b2)
          clear hb2 z0 z1 z2
          go_wp2_with fail
          refine (rhas_any own t.i _ HU.out).mono ?_
          rintro e w3 ⟨rfl, hw3⟩
          rw [← hw3]
          clear hw3
          rw [hh]
          go_wp2_with fail
          have TS := Lib.hid T2.out
          go_loopw [7, 29] (fun s i wr => ∃ m : Nat, m ≤ t.ks.length ∧ i = .int .i64 m ∧ s = .int .u64 ((0 ||| catL own x (t.ks.take m) : Nat) : Int) ∧ One w wr t A c) (fun _ i _ => t.ks.length - (intOf i).toNat)
          case atStart => exact ⟨0, Nat.zero_le _, rfl, by simp [catL_nil], TS.out⟩
          case round =>
            obtain ⟨m, hm', rfl, rfl, hO⟩ := hrel
            have U0 := Lib.hid (show U64 (0 ||| catL own x (t.ks.take m)) from Nat.or_lt_two_pow BU.out (catL_U own x _))
            have HO := Lib.hid hO
            have hbr := hO.below
            clear hO TS
            by_cases hlt : m < t.ks.length
            · obtain ⟨b, o, A', c', rfl, hlt', c0, c1, c2, hk⟩ := HO.out.tree.kid m hlt
              have S := Lib.hid (catL_take own x t.ks m hlt)
              have kz := kid_sz t m hlt
              obtain ⟨q, hq'⟩ : ∃ q, q = t.ks[m] := ⟨_, rfl⟩
              rw [← hq'] at c0 c1 c2 hk kz S
              clear hq'
              have ha : ∀ o, Below wr.heap.size wr (wr.alloc o) := fun o => (Below.refl _ _).alloc (Nat.le_refl _) _
              have HK := Lib.hid (fun o => hk.keep (ha o) (ha o).size)
              have QU := Lib.hid (catT_U own x q)
              have NX := Lib.hid (show (0 ||| catL own x (t.ks.take m)) ||| catT own x q = 0 ||| catL own x (t.ks.take (m + 1)) by rw [S.out, Nat.or_assoc])
              obtain ⟨s, hs⟩ : ∃ s, s = 0 ||| catL own x (t.ks.take m) := ⟨_, rfl⟩
              rw [← hs] at NX U0 ⊢
              have HA := Lib.hid ha
              clear hk hs S ha
              go_wp2_with fail
              refine (IH.out q A' c' _ (by omega) (by exact HK.out _)).mono ?_
              rintro e w' ⟨rfl, hb2⟩
              have HO2 := Lib.hid ((HO.out.keep (HA.out _)).keep hb2)
              clear hb2
              go_wp2_with fail
              refine (runion_any s (catT own x q) _ U0.out QU.out).mono ?_
              rintro e w9 ⟨rfl, hw9⟩
              rw [← hw9]
              clear hw9
              rw [NX.out]
              go_wp2_with fail
              go_roundw
              case rel => exact ⟨m + 1, by omega, by go_num, by first | rfl | simp, HO2.out⟩
              case measure => simp [intOf]; omega
            · obtain rfl : m = t.ks.length := by omega
              rw [List.take_length] at U0 ⊢
              obtain ⟨s, hs⟩ : ∃ s, s = 0 ||| catL own x t.ks := ⟨_, rfl⟩
              rw [← hs] at F ⊢
              clear hs
              go_wp2_with fail
              go_ret
              exact ⟨ret_intw (by rw [F.out]), hbr⟩
      · have F := Lib.hid (show catT own x t = 0 ||| catL own x t.ks by rw [E.out, if_pos hf, if_neg (fun e => hq e.1)])
        have BU := Lib.hid (show U64 0 from zero_U)
        have T0 := Lib.hid (One.new ht)
        obtain ⟨y0, y1, y2⟩ := And.intro T0.out.b0 (And.intro T0.out.b1 T0.out.b2)
        clear ht
        go_enter Try.func95, Try.ntmps95
        go_wp2_with fail
        refine (risfree_any x t A c _ (by exact T0.out.tree)).mono ?_
        rintro e w1 ⟨rfl, hb1⟩
        rw [hf]
        have T1 := Lib.hid (T0.out.keep hb1)
        obtain ⟨z0, z1, z2⟩ := And.intro T1.out.b0 (And.intro T1.out.b1 T1.out.b2)
        clear hb1 y0 y1 y2
        go_wp2_with fail
        refine (rquantified_any t.k t.i A t.ks.length c _).mono ?_
        rintro e w2 ⟨rfl, hb2⟩
        rw [decide_eq_false hq]
        have T2 := Lib.hid (T1.out.keep hb2)
        obtain ⟨y0, y1, y2⟩ := And.intro T2.out.b0 (And.intro T2.out.b1 T2.out.b2)
        clear hb2 z0 z1 z2
        go_wp2_with fail
        have TS := Lib.hid T2.out
        go_loopw [7, 29] (fun s i wr => ∃ m : Nat, m ≤ t.ks.length ∧ i = .int .i64 m ∧ s = .int .u64 ((0 ||| catL own x (t.ks.take m) : Nat) : Int) ∧ One w wr t A c) (fun _ i _ => t.ks.length - (intOf i).toNat)
        case atStart => exact ⟨0, Nat.zero_le _, rfl, by simp [catL_nil], TS.out⟩
        case round =>
          obtain ⟨m, hm', rfl, rfl, hO⟩ := hrel
          have U0 := Lib.hid (show U64 (0 ||| catL own x (t.ks.take m)) from Nat.or_lt_two_pow BU.out (catL_U own x _))
          have HO := Lib.hid hO
          have hbr := hO.below
          clear hO TS
          by_cases hlt : m < t.ks.length
          · obtain ⟨b, o, A', c', rfl, hlt', c0, c1, c2, hk⟩ := HO.out.tree.kid m hlt
            have S := Lib.hid (catL_take own x t.ks m hlt)
            have kz := kid_sz t m hlt
            obtain ⟨q, hq'⟩ : ∃ q, q = t.ks[m] := ⟨_, rfl⟩
            rw [← hq'] at c0 c1 c2 hk kz S
            clear hq'
            have ha : ∀ o, Below wr.heap.size wr (wr.alloc o) := fun o => (Below.refl _ _).alloc (Nat.le_refl _) _
            have HK := Lib.hid (fun o => hk.keep (ha o) (ha o).size)
            have QU := Lib.hid (catT_U own x q)
            have NX := Lib.hid (show (0 ||| catL own x (t.ks.take m)) ||| catT own x q = 0 ||| catL own x (t.ks.take (m + 1)) by rw [S.out, Nat.or_assoc])
            obtain ⟨s, hs⟩ : ∃ s, s = 0 ||| catL own x (t.ks.take m) := ⟨_, rfl⟩
            rw [← hs] at NX U0 ⊢
            have HA := Lib.hid ha
            clear hk hs S ha
            go_wp2_with fail
            refine (IH.out q A' c' _ (by omega) (by exact HK.out _)).mono ?_
            rintro e w' ⟨rfl, hb2⟩
            have HO2 := Lib.hid ((HO.out.keep (HA.out _)).keep hb2)
            clear hb2
            go_wp2_with fail
            refine (runion_any s (catT own x q) _ U0.out QU.out).mono ?_
            rintro e w9 ⟨rfl, hw9⟩
            rw [← hw9]
            clear hw9
            rw [NX.out]
            go_wp2_with fail
            go_roundw
            case rel => exact ⟨m + 1, by omega, by go_num, by first | rfl | simp, HO2.out⟩
            case measure => simp [intOf]; omega
          · obtain rfl : m = t.ks.length := by omega
            rw [List.take_length] at U0 ⊢
            obtain ⟨s, hs⟩ : ∃ s, s = 0 ||| catL own x t.ks := ⟨_, rfl⟩
            rw [← hs] at F ⊢
            clear hs
            go_wp2_with fail
            go_ret
            exact ⟨ret_intw (by rw [F.out]), hbr⟩
/-- what NotFree answers: the bool, the error -/
def nfB (x : Int) (t : Tr) : Bool := if 0 ≤ x ∧ x ≤ 63 then (if rightN t = 0 then !hasN (freeT t) x else false) else false
def nfE (x : Int) (t : Tr) : Nat := if 0 ≤ x ∧ x ≤ 63 then rightN t else 1
end Go.Proofs.Ytcjfaajceipenaa
