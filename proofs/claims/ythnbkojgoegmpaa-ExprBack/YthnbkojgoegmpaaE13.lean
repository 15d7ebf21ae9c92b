/- The document's Bytes and Encode. -/
import Derived.Test.YthnbkojgoegmpaaE9
import Derived.Test.YthnbkojgoegmpaaT4
import Derived.Test.YthnbkojgoegmpaaW9
namespace Go.Proofs.Ythnbkojgoegmpaa
open Go.RowKit
theorem grown_keep {w w' : World} (h : Below w.heap.size w w') : w.grownBy w' none := ⟨h.os, h.tape, h.output, h.size, fun i hi _ => h.block i hi⟩
theorem own_keep {w w' : World} {B : Nat} {t : TypeId} {v : Value} {n : Nat} {xs : List Value} (h : w.ownsRow B t 1 v n xs) (hb : Below w.heap.size w w') : w'.ownsRow B t 1 v n xs :=
  h.kept (grown_keep hb) (by
    cases e : v.ownBlock with
    | none => exact .inl rfl
    | some g => exact .inr (by simp))
theorem addr_add0 (g j : Nat) : (⟨g, 0, none⟩ : Addr).add j = ⟨g, j, none⟩ := by
  unfold Addr.add
  split
  · simp_all
  · simp
theorem own_mono {w : World} {B B' : Nat} {t : TypeId} {v : Value} {n : Nat} {xs : List Value} (h : w.ownsRow B t 1 v n xs) (hb : B' ≤ B) : w.ownsRow B' t 1 v n xs := by
  obtain ⟨h0, h1⟩ := h
  refine ⟨h0, h1.imp id ?_⟩
  rintro ⟨g, cap, cur, e, hB, r⟩
  exact ⟨g, cap, cur, e, by omega, r⟩
/-- bytes that are owned, and not none: where they lie -/
theorem own_at {w : World} {B : Nat} {v : Value} {l : List Nat} (h : w.ownsRow B 5 1 v l.length (bcells l)) (h0 : 1 ≤ l.length) :
    ∃ g cap, v = .slice (some ⟨g, 0, none⟩) l.length cap ∧ B ≤ g ∧ g < w.heap.size ∧ ∀ j u, (bcells l)[j]? = some u → w.cell? ((⟨g, 0, none⟩ : Addr).add j) = some u := by
  rcases own_form h with ⟨_, e⟩ | ⟨g, cap, rfl, hB, hn, hm, hc⟩
  · omega
  · refine ⟨g, cap, rfl, hB, (h.lt g rfl).2, fun j u hj => ?_⟩
    have hl : j < l.length := by
      have := (List.getElem?_eq_some_iff.1 hj).1
      simpa [bcells] using this
    have := hc j hl
    rw [hj] at this
    rw [← this, addr_add0]
theorem bcells_one (l : List Nat) : ∀ u ∈ bcells l, u.oneCell' = true := by
  intro u hu
  simp only [bcells, List.mem_map] at hu
  obtain ⟨n, _, rfl⟩ := hu
  rfl
theorem bcells_len (l : List Nat) : (bcells l).length = l.length * 1 := by simp [bcells]
theorem rpack_head (t : Tr) (w : World) (h : HeadOk t) :
    Calls Try.prog 73 #[.int .i64 t.k, .int .i64 t.i, .int .i64 (t.ks.length : Nat)] w fun e w' => e = .returned (.tuple #[.int .u32 ((headN t : Nat) : Int), .int .i64 0]) ∧ w = w' := by
  have := rpack_any t.k t.i (t.ks.length : Nat) w h
  rw [(head_of t h).1] at this
  exact this
theorem pack_head (t : Tr) (w : World) (h : HeadOk t) :
    Calls Try.prog 51 #[.int .i64 t.k, .int .i64 t.i, .int .i64 (t.ks.length : Nat)] w fun e w' => e = .returned (.tuple #[.int .u32 ((headN t : Nat) : Int), .int .i64 0]) ∧ w = w' := by
  have := pack_any t.k t.i (t.ks.length : Nat) w h
  rw [(head_of t h).1] at this
  exact this
theorem U64_head (t : Tr) (h : HeadOk t) : U64 (headN t) := by
  have := (head_of t h).2
  unfold U64
  omega
set_option maxHeartbeats 2000000 in
theorem rbytes_any : ∀ (N : Nat) (t : Tr) (A : Option Addr) (c : Nat) (w : World), t.sz ≤ N → N ≤ 1000 → t.shp = true → IsT w w.heap.size t A c →
    Calls Try.prog 53 #[.agg #[.int .i64 t.k, .int .i64 t.i, .slice A t.ks.length c]] w (OwnBytes w t.enc) := by
  intro N
  induction N with
  | zero => intro t A c w h; have := sz_pos t; omega
  | succ N ih =>
    intro t A c w hN hN' hs ht
    obtain ⟨i0, hi, hz0, hz1, hz2⟩ := info_parts Try.info_byte
    have IH := Lib.hid ih
    have HT := Lib.hid ht
    have E := Lib.hid (enc_eq t)
    have hl := ht.len
    have HO := headOk_shp t hs
    have SH := Lib.hid (shp_kid t hs)
    have hb0 : Below w.heap.size w (w.alloc (.cells #[.int .i64 t.k, .int .i64 t.i, .slice A t.ks.length c] 24)) := (Below.refl _ _).alloc (Nat.le_refl _) _
    have PK := Lib.hid (rpack_head t (w.alloc (.cells #[.int .i64 t.k, .int .i64 t.i, .slice A t.ks.length c] 24)) HO)
    have PL := Lib.hid (putN_len (headN t))
    have U := U64_head t HO
    have SZ := Lib.hid (sz_eq t)
    have hh := (head_of t HO).2
    obtain ⟨hd, hhd⟩ : ∃ hd, hd = headN t := ⟨_, rfl⟩
    rw [← hhd] at PK PL U E hh
    have HL := Lib.hid HO.2.2
    clear ih ht hhd HO
    go_enter Try.func53, Try.ntmps53
    go_wp2_with fail
    refine PK.out.mono ?_
    rintro e w1 ⟨rfl, rfl⟩
    have hw64 : IntKind.u64.wrap (hd : Int) = (hd : Int) := by rw [IntKind.wrap_u64]; omega
    go_wp2_with fail
    refine (rput_any hd _ U).mono ?_
    rintro e w2 ⟨v2, rfl, o2, b2⟩
    obtain ⟨f0, f1, f2⟩ := box_cells (b2.mono (by simp))
    have hc2 : Below w.heap.size w w2 := hb0.trans (b2.mono hb0.size)
    have O2 := Lib.hid (own_mono o2 hb0.size)
    clear o2
    go_wp2_with fail
    go_loopw [5, 26] (fun v i wr => ∃ (m : Nat) (acc : List Nat), m ≤ t.ks.length ∧ i = .int .i64 m ∧ acc = putN hd ++ encL (t.ks.take m) ∧ wr.ownsRow w.heap.size 5 1 v acc.length (bcells acc) ∧ Below w.heap.size w wr) (fun _ i _ => t.ks.length - (intOf i).toNat)
    case atStart => exact ⟨0, putN hd, Nat.zero_le _, rfl, by simp [encL], O2.out, hc2⟩
    case round =>
      obtain ⟨m, acc, hm', rfl, hacc, hown, hbr⟩ := hrel
      have AC := Lib.hid hacc
      have LE := Lib.hid (show acc.length ≤ 10 * t.sz by
        rw [hacc, List.length_append]
        have := PL.out
        have := encL_take_len t.ks m
        have := SZ.out
        omega)
      clear hacc O2 hc2
      by_cases hlt : m < t.ks.length
      · obtain ⟨b, o, A', c', rfl, hlt', c0, c1, c2, hk⟩ := HT.out.kid m hlt
        have S := Lib.hid (encL_take t.ks m hlt)
        have kz := kid_sz t m hlt
        have ks := SH.out m hlt
        obtain ⟨q, hq⟩ : ∃ q, q = t.ks[m] := ⟨_, rfl⟩
        rw [← hq] at c0 c1 c2 hk kz S ks
        clear hq
        have d0 := (hbr.cell hlt').trans c0
        have d1 := (hbr.cell hlt').trans c1
        have d2 := (hbr.cell hlt').trans c2
        have HK := Lib.hid (hk.keep (hbr.mono (Nat.le_refl _)) hbr.size)
        clear c0 c1 c2 hk
        have ha : Below wr.heap.size wr (wr.alloc (.cells #[.int .i64 q.k, .int .i64 q.i, .slice A' q.ks.length c'] 24)) := (Below.refl _ _).alloc (Nat.le_refl _) _
        have HK' := Lib.hid (HK.out.keep ha ha.size)
        have OW := Lib.hid (own_keep hown ha)
        have EL := enc_len q
        clear hown
        go_wp2_with fail
        refine (IH.out q A' c' _ (by omega) (by omega) ks (by exact HK'.out)).mono ?_
        rintro e w3 ⟨v3, rfl, o3, b3⟩
        have hb3 : Below w.heap.size w w3 := hbr.trans ((ha.trans (b3.mono ha.size)).mono hbr.size)
        have OX := Lib.hid (own_keep OW.out b3)
        obtain ⟨g, cap, rfl, hg0, hg1, hg⟩ := own_at o3 EL.1
        have hs3 := hb3.size
        have L := LE.out
        clear OW b3 o3
        go_wp2_with (at_builtin; refine wpList_append_own _ rfl _ _ 34 rfl w.heap.size 5 i0 (.int .u8 0) 1 1 Try.underlying34 hi hz0 hz1 hz2 rfl (by decide) _ _ _ rfl OX.out ⟨g, 0, none⟩ q.enc.length cap (bcells q.enc) rfl (bcells_len _) hg (bcells_one _) ?c3 ?c4 hs3 ?_)
        case c3 => unfold maxLen; omega
        case c4 => omega
        intro v' w4 hown' hgrow _
        have O4 := Lib.hid (show w4.ownsRow w.heap.size 5 1 v' (acc ++ q.enc).length (bcells (acc ++ q.enc)) by rw [bcells_app, List.length_append]; exact hown')
        have B4 := Lib.hid (hb3.grown hgrow hs3 (fun k hk => (OX.out.lt k hk).1))
        have A4 := Lib.hid (show acc ++ q.enc = putN hd ++ encL (t.ks.take (m + 1)) by rw [S.out, AC.out, List.append_assoc])
        clear hown' hgrow OX
        go_wp2_with fail
        go_roundw
        case rel => exact ⟨m + 1, acc ++ q.enc, by omega, by go_num, A4.out, O4.out, B4.out⟩
        case measure => simp [intOf]; omega
      · obtain rfl : m = t.ks.length := by omega
        have F := Lib.hid (show acc = t.enc by rw [E.out, AC.out, List.take_length])
        go_wp2_with fail
        go_ret
        exact ⟨_, rfl, by rw [← F.out]; exact hown, hbr⟩
end Go.Proofs.Ythnbkojgoegmpaa
