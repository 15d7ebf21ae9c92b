/- The document's withinEach. -/
import Derived.Test.YtkncchhalahpoaaU4
namespace Go.Proofs.Ytkncchhalahpoaa
open Go.RowKit
set_option linter.unusedVariables false
set_option linter.unusedSimpArgs false
/-- what withinEach holds: a tree, boxed, the box of the answer, pairs -/
structure WE (w W : World) (a : Tr) (A : Option Addr) (c : Nat) (l : List (Int × Tr)) (Al : Option Addr) (cl : Nat) : Prop where
  ab : Box3 W w.heap.size (.int .i64 a.k) (.int .i64 a.i) (.slice A a.ks.length c)
  rb : BoxW W (w.heap.size + 1) (.bool false) (.int .i64 0) (.int .i64 0) (.slice none 0 0) (.int .i64 0)
  ta : IsT W W.heap.size a A c
  tl : IsP W W.heap.size l Al cl
  below : Below w.heap.size w W
theorem WE.keep {w W W' : World} {a : Tr} {A : Option Addr} {c : Nat} {l : List (Int × Tr)} {Al : Option Addr} {cl : Nat} (h : WE w W a A c l Al cl) (hb : Below W.heap.size W W') : WE w W' a A c l Al cl :=
  ⟨h.ab.keep hb h.ab.lt, h.rb.keep hb h.rb.lt, h.ta.keep hb hb.size, h.tl.up hb, h.below.trans (hb.mono h.below.size)⟩
theorem WE.start {w : World} {a : Tr} {A : Option Addr} {c : Nat} {l : List (Int × Tr)} {Al : Option Addr} {cl : Nat} (ha : IsT w w.heap.size a A c) (hl : IsP w w.heap.size l Al cl) :
    WE w ((w.alloc (.cells #[.int .i64 a.k, .int .i64 a.i, .slice A a.ks.length c] 24)).alloc (.cells #[.bool false, .int .i64 0, .int .i64 0, .slice none 0 0, .int .i64 0] 55)) a A c l Al cl := by
  have h1 := below_alloc w (.cells #[.int .i64 a.k, .int .i64 a.i, .slice A a.ks.length c] 24)
  have h2 := below_alloc (w.alloc (.cells #[.int .i64 a.k, .int .i64 a.i, .slice A a.ks.length c] 24)) (.cells #[.bool false, .int .i64 0, .int .i64 0, .slice none 0 0, .int .i64 0] 55)
  have e0 := Box3.new w (.int .i64 a.k) (.int .i64 a.i) (.slice A a.ks.length c)
  have e1 := BoxW.new (w.alloc (.cells #[.int .i64 a.k, .int .i64 a.i, .slice A a.ks.length c] 24)) (.bool false) (.int .i64 0) (.int .i64 0) (.slice none 0 0) (.int .i64 0)
  rw [World.size_alloc] at e1
  exact ⟨e0.keep h2 e0.lt, e1, (ha.keep h1 h1.size).keep h2 h2.size, (hl.up h1).up h2, h1.trans (h2.mono h1.size)⟩
theorem win_got1 {w w' : World} {s : Tr} {room b : Nat} {A : Option Addr} {c lo : Nat} (hb : Below w.heap.size w w') (ho : OwnT w' lo w'.heap.size s A c) (hb1 : w.heap.size ≤ b) (hlo : b < lo) (h : s.sz ≤ room) :
    WinP w s room (.returned (gotW s A c)) (((((w'.setCell ⟨b, 0, none⟩ (.bool true)).setCell ⟨b, 1, none⟩ (.int .i64 s.k)).setCell ⟨b, 2, none⟩ (.int .i64 s.i)).setCell ⟨b, 3, none⟩ (.slice A s.ks.length c)).setCell ⟨b, 4, none⟩ (.int .i64 (s.sz : Int))) := by
  refine ⟨below_setW hb (by omega) _ _ _ _ _, ?_⟩
  rw [if_pos h]
  refine ⟨A, c, rfl, ?_⟩
  have hs : SameIn lo w'.heap.size w' (((((w'.setCell ⟨b, 0, none⟩ (.bool true)).setCell ⟨b, 1, none⟩ (.int .i64 s.k)).setCell ⟨b, 2, none⟩ (.int .i64 s.i)).setCell ⟨b, 3, none⟩ (.slice A s.ks.length c)).setCell ⟨b, 4, none⟩ (.int .i64 (s.sz : Int))) := fun k k1 k2 => setW_other _ _ _ _ _ _ _ _ (by omega)
  have := (OwnT.same _ hs ho).lower (lo' := w.heap.size) (by omega)
  simpa using this
set_option maxHeartbeats 8000000 in
set_option maxRecDepth 100000 in
theorem withinEach_any : ∀ (N : Nat) (a : Tr) (A : Option Addr) (c : Nat) (l : List (Int × Tr)) (Al : Option Addr) (cl room : Nat) (w : World), a.sz ≤ N → a.sz ≤ 1000 → a.shp = true → (∀ p ∈ l, p.2.sz ≤ 1000) → room ≤ 1000 → IsT w w.heap.size a A c → IsP w w.heap.size l Al cl →
    Calls Try.prog 50 #[.agg #[.int .i64 a.k, .int .i64 a.i, .slice A a.ks.length c], .slice Al l.length cl, .int .i64 (room : Int)] w (WinP w (putE l a 0) room) := by
  intro N
  induction N with
  | zero => intro a A c l Al cl room w h; have := sz_pos a; omega
  | succ N ih =>
    intro a A c l Al cl room w hN hsz hshp hps hroom ha hl
    have IH := Lib.hid ih
    have K0 := Lib.hid (WE.start ha hl)
    have hlen := ha.len
    have hlcap := hl.cap
    have hlle := hl.le
    have sp := sz_pos (putE l a 0)
    have PS := Lib.hid hps
    clear ih ha hl hps
    obtain ⟨r0, r1, r2, r3, r4⟩ := K0.out.rb.cells
    obtain ⟨a0, a1, a2⟩ := K0.out.ab.cells
    by_cases hr : room < 1
    · have hr' : (room : Int) < 1 := by omega
      have NO := Lib.hid (show ¬ (putE l a 0).sz ≤ room by omega)
      go_enter Try.func50, Try.ntmps50
      go_wp2_with fail
      exact bodyPost_ret (v := noW) (by simp [noW, results, Try.results50, go_sem, r0, r1, r2, r3, r4]) rfl (win_no K0.out.below NO.out)
    · have hr' : ¬ (room : Int) < 1 := by omega
      by_cases hk : a.k = 1
      · have hk1 : (a.k == 1) = true := by simp [hk]
        obtain ⟨hks, hi0, hi1⟩ := shp_varT hshp hk
        have LE := Lib.hid (show lookE l 0 a.k a.i = lookP l a.i by unfold lookE; rw [if_pos ⟨hk, hasN_zero _⟩])
        have AV := Lib.hid (show a = .node 1 a.i [] by rw [← hk, ← hks]; exact Tr.eta a)
        have A1 := Lib.hid (show a.sz = 1 by rw [sz_eq, hks]; rfl)
        have PV := Lib.hid (fun u => putX_var (u := u) (t := a) hk rfl)
        have HKS := Lib.hid hks
        clear hk hks
        clear r0 r1 r2 r3 r4
        go_enter Try.func50, Try.ntmps50
        go_wp2_with fail
        go_loopw [22] (fun i wr => ∃ m : Nat, m ≤ l.length ∧ i = .int .i64 m ∧ (∀ m' (h' : m' < l.length), m' < m → l[m'].1 ≠ a.i) ∧ WE w wr a A c l Al cl) (fun i _ => l.length - (intOf i).toNat)
        case atStart => exact ⟨0, Nat.zero_le _, rfl, fun m' _ h => by omega, K0.out⟩
        case round =>
          obtain ⟨m, hm', rfl, hno, hK⟩ := hrel
          have HN := Lib.hid hno
          have K1 := Lib.hid hK
          have hlt1 := hK.rb.lt
          clear hno hK K0 a0 a1 a2
          by_cases hlt : m < l.length
          · obtain ⟨b, o, A', c', rfl, hltb, p0, p1, p2, p3, ht⟩ := K1.out.tl.at_ m hlt
            have NXT := Lib.hid (show l[m].1 ≠ a.i → ∀ m' (h' : m' < l.length), m' < m + 1 → l[m'].1 ≠ a.i from fun hne m' h' hm => by
              rcases Nat.lt_or_ge m' m with h | h
              · exact HN.out m' h' h
              · obtain rfl : m' = m := by omega
                exact hne)
            have YES := Lib.hid (show l[m].1 = a.i → lookP l a.i = some l[m].2 from fun he => lookP_at hlt he HN.out)
            have SZ := Lib.hid (PS.out l[m] (List.getElem_mem hlt))
            obtain ⟨p, hp⟩ : ∃ p, p = l[m] := ⟨_, rfl⟩
            rw [← hp] at p0 p1 p2 p3 ht NXT YES SZ
            have ha := below_alloc wr (.cells #[.int .i64 p.1, .int .i64 p.2.k, .int .i64 p.2.i, .slice A' p.2.ks.length c'] 47)
            have K2 := Lib.hid (K1.out.keep ha)
            have TT := Lib.hid (ht.keep ha ha.size)
            obtain ⟨q0, q1, q2, q3⟩ := box4_new wr (.int .i64 p.1) (.int .i64 p.2.k) (.int .i64 p.2.i) (.slice A' p.2.ks.length c') 47
            obtain ⟨a0, a1, a2⟩ := K2.out.ab.cells
            clear hp ht ha
            by_cases he : p.1 = a.i
            · have he' : (p.1 == a.i) = true := by simp [he]
              have F := Lib.hid (show putE l a 0 = p.2 from putE_some (by rw [LE.out]; exact YES.out he))
              have WI := Lib.hid (within_any a.i hi0 hi1 p.2 A' c' SZ.out a.sz a A c room _ (Nat.le_refl _) hsz hroom K2.out.ta TT.out)
              rw [PV.out] at WI
              clear he
              go_wp2_with fail
              refine WI.out.mono ?_
              rintro e w3 ⟨hb3, hres⟩
              have K3 := Lib.hid (K2.out.keep hb3)
              have hz3 := hb3.size
              simp only [World.size_alloc] at hz3
              clear hb3 a0 a1 a2 q0 q1 q2 q3 p0 p1 p2 p3
              obtain ⟨r0, r1, r2, r3, r4⟩ := K3.out.rb.cells
              have f0 := K3.out.rb.frozen 0
              have f1 := K3.out.rb.frozen 1
              have f2 := K3.out.rb.frozen 2
              have f3 := K3.out.rb.frozen 3
              have f4 := K3.out.rb.frozen 4
              by_cases hfit : p.2.sz ≤ room
              · rw [if_pos hfit] at hres
                obtain ⟨A3, c3, rfl, ho⟩ := hres
                have HO := Lib.hid ho
                clear ho
                unfold gotW
                go_wp2_with fail
                refine bodyPost_ret (v := gotW p.2 A3 c3) (by simp [gotW, results, Try.results50, go_sem, r0, r1, r2, r3, r4]) rfl ?_
                rw [F.out]
                exact win_got1 K3.out.below HO.out (by omega) (by simp; omega) hfit
              · rw [if_neg hfit] at hres
                obtain rfl := hres
                unfold noW
                go_wp2_with fail
                refine bodyPost_ret (v := noW) (by simp [noW, results, Try.results50, go_sem, r0, r1, r2, r3, r4]) rfl ?_
                rw [F.out]
                exact win_no (below_setW K3.out.below (by omega) _ _ _ _ _) hfit
            · have he' : (p.1 == a.i) = false := by simpa using he
              have Y := Lib.hid (NXT.out he)
              clear he
              go_wp2_with fail
              go_roundw
              case rel => exact ⟨m + 1, by omega, by go_num, Y.out, K2.out⟩
              case measure => simp [intOf]; omega
          · obtain rfl : m = l.length := by omega
            have F := Lib.hid (show putE l a 0 = a by
              have hlk : lookE l 0 a.k a.i = none := by rw [LE.out]; exact lookP_no fun m h => HN.out m h h
              rw [putE_none hlk, HKS.out]
              show Tr.node a.k a.i [] = a
              rw [← HKS.out]
              exact (Tr.eta a).symm)
            obtain ⟨a0, a1, a2⟩ := K1.out.ab.cells
            go_wp2_with fail
            refine (copy_any a.sz a A c _ (Nat.le_refl _) (by exact K1.out.ta)).mono ?_
            rintro e w2 ⟨A2, c2, rfl, ho, hb2⟩
            have K2 := Lib.hid (K1.out.keep hb2)
            have HO := Lib.hid ho
            clear hb2 ho a0 a1 a2
            obtain ⟨r0, r1, r2, r3, r4⟩ := K2.out.rb.cells
            have f0 := K2.out.rb.frozen 0
            have f1 := K2.out.rb.frozen 1
            have f2 := K2.out.rb.frozen 2
            have f3 := K2.out.rb.frozen 3
            have f4 := K2.out.rb.frozen 4
            go_wp2_with fail
            refine bodyPost_ret (v := .agg #[.bool true, .int .i64 a.k, .int .i64 a.i, .slice A2 a.ks.length c2, .int .i64 1]) (by simp [results, Try.results50, go_sem, r0, r1, r2, r3, r4]) rfl ?_
            rw [F.out]
            have := win_got1 (room := room) K2.out.below HO.out (show w.heap.size ≤ w.heap.size + 1 by omega) (by omega) (by rw [A1.out]; omega)
            unfold gotW at this
            rw [A1.out] at this
            exact this
      · have hk1 : (a.k == 1) = false := by simpa using hk
        have LN := Lib.hid (show lookE l 0 a.k a.i = none by unfold lookE; rw [if_neg (fun h => hk h.1)])
        have F0 := Lib.hid (putE_none LN.out)
        obtain ⟨qB, hqB⟩ : ∃ qB, decide (a.k = 7 ∨ a.k = 10) = qB := ⟨_, rfl⟩
        have QB := Lib.hid hqB
        clear r0 r1 r2 r3 r4 hk hqB
        go_enter Try.func50, Try.ntmps50
        go_upto_if 43 with (go_at_call 65; refine (rquantified_any a.k a.i A a.ks.length c _).mono ?_; rintro e w1 ⟨rfl, hb1⟩; rw [QB.out])
        have K1 := Lib.hid (K0.out.keep hb1)
        clear hb1 K0 a0 a1 a2
        obtain ⟨a0, a1, a2⟩ := K1.out.ab.cells
        go_cut [1] (fun lv wc => ∃ (l' : List (Int × Tr)) (Al' : Option Addr) (cl' : Nat), lv = .slice Al' l'.length cl' ∧ WE w wc a A c l' Al' cl' ∧ (∀ q, putE l' q 0 = putE l q (bdB a.k a.i 0)) ∧ (∀ p ∈ l', p.2.sz ≤ 1000))
        case first =>
          cases qB with
          | true =>
            have hq := of_decide_eq_true QB.out
            obtain ⟨hi0, hi1⟩ : 0 ≤ a.i ∧ a.i ≤ 63 := by obtain ⟨_, _, h0, h1⟩ := shp_quant hshp hq; exact ⟨h0, h1⟩
            have BD := Lib.hid (show bdB a.k a.i 0 = withN 0 a.i by unfold bdB; rw [if_pos hq])
            clear hq
            go_wp2_with fail
            refine (dropped_any l Al cl a.i _ (by exact K1.out.tl)).mono ?_
            rintro e w2 ⟨hb2, A2, c2, rfl, hP⟩
            have K2 := Lib.hid (K1.out.keep hb2)
            have PP := Lib.hid hP
            clear hb2 hP
            go_wp2_with fail
            go_meet
            exact ⟨dropP l a.i, A2, c2, rfl, ⟨K2.out.ab, K2.out.rb, K2.out.ta, PP.out, K2.out.below⟩, fun q => by rw [BD.out]; exact putE_drop hi0 hi1 q 0, fun p hp => PS.out p (List.mem_filter.1 hp).1⟩
          | false =>
            have hq := of_decide_eq_false QB.out
            have BD := Lib.hid (show bdB a.k a.i 0 = 0 by unfold bdB; rw [if_neg hq])
            clear hq
            go_wp2_with fail
            go_meet
            exact ⟨l, Al, cl, rfl, K1.out, fun q => by rw [BD.out], PS.out⟩
        case rest =>
              obtain ⟨l', Al', cl', rfl, hK, hP, hS⟩ := hcut
              have K2 := Lib.hid hK
              have PS' := Lib.hid hS
              have F := Lib.hid (show putE l a 0 = .node a.k a.i (a.ks.map fun q => putE l' q 0) by rw [F0.out]; congr 1; exact List.map_congr_left fun q _ => (hP q).symm)
              clear hK hP hS K1 a0 a1 a2 F0
              obtain ⟨a0, a1, a2⟩ := K2.out.ab.cells
              have y2 : ∀ o, (wc.alloc o).cell? ⟨w.heap.size, 2, none⟩ = some (.slice A a.ks.length c) := fun o => (K2.out.ab.keep (below_alloc wc o) K2.out.ab.lt).cells.2.2
              obtain ⟨ts, hts0⟩ : ∃ ts, ts = a.ks.map fun q => putE l' q 0 := ⟨_, rfl⟩
              have HTS := Lib.hid hts0
              have hlen : ts.length = a.ks.length := by rw [hts0, List.length_map]
              rw [← hts0] at F
              clear hts0
              have FS := Lib.hid (show (putE l a 0).sz = 1 + szL ts by rw [F.out]; simp [Tr.sz])
              obtain ⟨i0, hi, hz0, hz1, hz2⟩ := info_parts infoE
              have HI := Lib.hid (And.intro hi (And.intro hz0 (And.intro hz1 hz2)))
              clear hi hz0 hz1 hz2
              have BC := Lib.hid (Box3.new wc (.int .i64 a.k) (.int .i64 a.i) (.slice none 0 0))
              have hwc : w.heap.size + 1 < wc.heap.size := K2.out.rb.lt
              have hb2 := K2.out.below
              have SK := Lib.hid (fun q (hq : q ∈ a.ks) => shp_kid hshp hq)
              go_wp2_with fail
              go_loopw [10, 56] (fun nv i wr => ∃ (m : Nat) (A1 : Option Addr) (c1 : Nat) (cs : List (Option Addr × Nat)), m ≤ a.ks.length ∧ i = .int .i64 m ∧ nv = .int .i64 ((1 + szL (ts.take m) : Nat) : Int) ∧ 1 + szL (ts.take m) ≤ room ∧ Lay w wr w.heap.size (wc.heap.size + 1) wc.heap.size (.int .i64 a.k) (.int .i64 a.i) (ts.take m) A1 c1 cs ∧ Below wc.heap.size wc wr) (fun _ i _ => a.ks.length - (intOf i).toNat)
              case atStart => exact ⟨0, none, 0, [], Nat.zero_le _, rfl, rfl, by simp [szL]; omega, ⟨hb2.trans ((below_alloc wc _).mono hb2.size), rfl, by simpa using BC.out, by omega, by omega, by simpa [rowC] using World.ownsRow_nil _ _ _ _, by simp [OwnL]⟩, below_alloc wc _⟩
              case round =>
                obtain ⟨m, A1, c1, cs, hm', rfl, rfl, hnr, hL, hb⟩ := hrel
                have HL := Lib.hid hL
                have HBW := Lib.hid hb
                have hwr := hb.size
                have KR := Lib.hid (K2.out.keep hb)
                obtain ⟨n, hn⟩ : ∃ n, n = 1 + szL (ts.take m) := ⟨_, rfl⟩
                rw [← hn] at hnr ⊢
                have HN := Lib.hid hn
                clear hL hb hn a0 a1 a2 y2
                by_cases hlt : m < a.ks.length
                · obtain ⟨b, o, Aq, cq, rfl, hlt', p0, p1, p2, hk⟩ := KR.out.ta.kid m hlt
                  have kz := kid_sz a m hlt
                  have hm1 : m < ts.length := by omega
                  have tl : (ts.take m).length = m := by rw [List.length_take]; omega
                  have NT := Lib.hid (show ts.take (m + 1) = ts.take m ++ [putE l' a.ks[m] 0] by rw [List.take_succ_eq_append_getElem hm1]; congr 2; simp [HTS.out])
                  have SKQ := Lib.hid (SK.out a.ks[m] (List.getElem_mem hlt))
                  obtain ⟨q, hq⟩ : ∃ q, q = a.ks[m] := ⟨_, rfl⟩
                  rw [← hq] at p0 p1 p2 hk kz NT SKQ
                  obtain ⟨q', hq'⟩ : ∃ q', q' = putE l' q 0 := ⟨_, rfl⟩
                  rw [← hq'] at NT
                  have SZ := Lib.hid (show szL (ts.take (m + 1)) = szL (ts.take m) + q'.sz by rw [NT.out, szL_append]; simp [szL])
                  have SLE := Lib.hid (szL_take_le ts (m + 1))
                  have NX := Lib.hid (show n + q'.sz = 1 + szL (ts.take (m + 1)) by rw [SZ.out, HN.out]; omega)
                  have ha := below_alloc wr (.cells #[.int .i64 q.k, .int .i64 q.i, .slice Aq q.ks.length cq] 24)
                  have KA := Lib.hid (KR.out.keep ha)
                  have IHQ := Lib.hid (IH.out q Aq cq l' Al' cl' (room - n) _ (by omega) (by omega) SKQ.out PS'.out (by omega) (hk.keep ha ha.size) KA.out.tl)
                  rw [← hq'] at IHQ
                  have wr1 : IntKind.i64.wrap ((room : Int) - (n : Int)) = ((room - n : Nat) : Int) := by rw [IntKind.wrap_i64]; omega
                  have wr2 : (room : Int) - (n : Int) = ((room - n : Nat) : Int) := by omega
                  have HLl := HL.out.own.lt
                  have STEP := Lib.hid (fun wa wx w4 => @Lay.stepG w wr wa wx w4 _ _ _ _ _ _ q' _ _ _ HL.out)
                  have OWN := Lib.hid (fun (W : World) (h : Below wr.heap.size wr W) => ownsRow_same (hi := wr.heap.size) (w' := W) HL.out.own (fun k k1 k2 => h.block k k2) (fun g e => (HL.out.own.lt g e).2))
                  have BXW := Lib.hid (fun (W : World) (h : Below wr.heap.size wr W) => HL.out.box.keep h HL.out.box.lt)
                  have HLT := Lib.hid HLl
                  have hbl2 : wc.heap.size < wr.heap.size := HL.out.box.lt
                  rw [tl] at STEP OWN BXW HLT
                  have NBL := Lib.hid (fun (W w4 : World) (g cap : Nat) (h : Below wr.heap.size wr W) (hg4 : W.grownBy w4 (Value.slice A1 m c1).ownBlock) => (by
                    have hz3 := h.size
                    refine HBW.out.trans ((h.mono hwr).trans ?_)
                    refine Below.setCell (B := wc.heap.size) (p := ⟨wc.heap.size, 2, none⟩) ?_ (by show wc.heap.size ≤ wc.heap.size; omega) _
                    exact ⟨hg4.os, hg4.tape, hg4.output, hg4.size, fun k hk => hg4.block k (by omega) (fun e => by have := HLT.out _ e.symm; omega)⟩ : Below wc.heap.size wc (w4.setCell ⟨wc.heap.size, 2, none⟩ (.slice (some ⟨g, 0, none⟩) (m + 1) cap))))
                  have hal := Lib.hid ha
                  clear hk hq hq' ha HLl
                  go_wp2_with fail
                  refine IHQ.out.mono ?_
                  rintro e w5 ⟨hb5, hres⟩
                  have KW := Lib.hid (KA.out.keep hb5)
                  have BW := Lib.hid (hal.out.trans (hb5.mono hal.out.size))
                  have hz5 := hb5.size
                  simp only [World.size_alloc] at hz5
                  clear hb5 p0 p1 p2
                  by_cases hfit : q'.sz ≤ room - n
                  · rw [if_pos hfit] at hres
                    obtain ⟨A2, c2, rfl, ho⟩ := hres
                    have HO := Lib.hid (ho.lower (lo' := wr.heap.size) (by simp))
                    have wr3 : IntKind.i64.wrap ((n : Int) + (q'.sz : Int)) = (n : Int) + (q'.sz : Int) := by rw [IntKind.wrap_i64]; omega
                    have bx : ∀ o, (w5.alloc o).cell? ⟨wc.heap.size, 2, none⟩ = some (.slice A1 m c1) := fun o => (BXW.out _ (BW.out.trans ((below_alloc w5 o).mono BW.out.size))).cells.2.2
                    have B2 := Lib.hid (fun o o' => ((below_alloc w5 o).trans ((below_alloc (w5.alloc o) o').mono (below_alloc w5 o).size)))
                    clear ho
                    unfold gotW
                    go_wp2_with (at_builtin; refine wpList_append_lies _ (by rfl) _ _ _ (by rfl) (wc.heap.size + 1) 24 i0 _ 3 40 Try.underlying22 HI.out.1 HI.out.2.1 HI.out.2.2.1 HI.out.2.2.2 (by rfl) (by omega) (.slice A1 m c1) m (rowC (ts.take m) cs) (by rfl) (by exact OWN.out _ (BW.out.trans ((B2.out _ _).mono BW.out.size))) ⟨w5.heap.size + 1, 0, none⟩ 1 1 [.int .i64 q'.k, .int .i64 q'.i, .slice A2 q'.ks.length c2] (by rfl) (by rfl) (by exact news3 _ _ _ _ _ _) (by simp [Value.oneCell']) (by omega) (by unfold maxLen; omega) (by omega) (by simp; omega) (w5.heap.size + 2) (by simp) ?_; intro g cap w4 hown4 hgrow hat hlt4; have B4 := Lib.hid ((BXW.out _ (BW.out.trans ((B2.out _ _).mono BW.out.size))).grown hgrow (fun e => by have := HLT.out _ e.symm; omega)); have c4 := B4.out.cells.2.2; have f4 := B4.out.frozen 2; have W4 := Lib.hid (BoxW.grown (((BoxW.new w5 (.bool true) (.int .i64 q'.k) (.int .i64 q'.i) (.slice A2 q'.ks.length c2) (.int .i64 (q'.sz : Int))).keep (below_alloc (w5.alloc (.cells #[.bool true, .int .i64 q'.k, .int .i64 q'.i, .slice A2 q'.ks.length c2, .int .i64 (q'.sz : Int)] 55)) _) (by simp))) hgrow (fun e => by have := HLT.out _ e.symm; omega)); have v4 := ((W4.out.set_other ⟨wc.heap.size, 2, none⟩ (.slice (some ⟨g, 0, none⟩) (m + 1) cap) (by show w5.heap.size ≠ wc.heap.size; omega)).cells).2.2.2.2; have HO4 := Lib.hid hown4; have HG4 := Lib.hid hgrow; have HAT := Lib.hid hat; clear hown4 hgrow hat)
                    have NL := Lib.hid (STEP.out w5 _ w4 BW.out HO.out (B2.out _ _) HO4.out HG4.out (by simpa using HAT.out))
                    have NB := Lib.hid (NBL.out _ w4 g cap (BW.out.trans ((B2.out _ _).mono BW.out.size)) HG4.out)
                    go_roundw
                    case rel => exact ⟨m + 1, _, _, _, by omega, by go_num, by rw [← NX.out]; first | rfl | simp, by rw [← NX.out]; omega, by rw [NT.out]; exact NL.out, NB.out⟩
                    case measure => simp [intOf]; omega
                  · rw [if_neg hfit] at hres
                    obtain rfl := hres
                    have NO := Lib.hid (show ¬ (putE l a 0).sz ≤ room by rw [FS.out]; have := SZ.out; have := SLE.out; have := HN.out; omega)
                    have KW2 := Lib.hid (fun o => KW.out.keep (below_alloc w5 o))
                    have r0 := fun o => (KW2.out o).rb.cells.1
                    have r1 := fun o => (KW2.out o).rb.cells.2.1
                    have r2 := fun o => (KW2.out o).rb.cells.2.2.1
                    have r3 := fun o => (KW2.out o).rb.cells.2.2.2.1
                    have r4 := fun o => (KW2.out o).rb.cells.2.2.2.2
                    have f0 := fun o => (KW2.out o).rb.frozen 0
                    have f1 := fun o => (KW2.out o).rb.frozen 1
                    have f2 := fun o => (KW2.out o).rb.frozen 2
                    have f3 := fun o => (KW2.out o).rb.frozen 3
                    have f4 := fun o => (KW2.out o).rb.frozen 4
                    unfold noW
                    go_wp2_with fail
                    exact bodyPost_ret (v := noW) (by simp [noW, results, Try.results50, go_sem, r0, r1, r2, r3, r4]) rfl (win_no (below_setW (KW2.out _).below (by omega) _ _ _ _ _) NO.out)
                · obtain rfl : m = a.ks.length := by omega
                  have tl : ts.take a.ks.length = ts := by rw [← hlen, List.take_length]
                  rw [tl] at HL HN
                  have DONE := Lib.hid (Lay.done (t := .node a.k a.i ts) HL.out)
                  have bxx := HL.out.box
                  rw [hlen] at bxx
                  obtain ⟨z0, z1, z2⟩ := bxx.cells
                  obtain ⟨r0, r1, r2, r3, r4⟩ := KR.out.rb.cells
                  have f0 := KR.out.rb.frozen 0
                  have f1 := KR.out.rb.frozen 1
                  have f2 := KR.out.rb.frozen 2
                  have f3 := KR.out.rb.frozen 3
                  have f4 := KR.out.rb.frozen 4
                  have NE := Lib.hid (show n = (Tr.node a.k a.i ts).sz by rw [HN.out]; simp [Tr.sz])
                  clear bxx
                  go_wp2_with fail
                  refine bodyPost_ret (v := .agg #[.bool true, .int .i64 a.k, .int .i64 a.i, .slice A1 a.ks.length c1, .int .i64 (n : Int)]) (by simp [results, Try.results50, go_sem, r0, r1, r2, r3, r4]) rfl ?_
                  rw [F.out]
                  have := win_got1 (s := .node a.k a.i ts) (room := room) (b := w.heap.size + 1) KR.out.below DONE.out (by omega) (by omega) (by rw [← NE.out]; exact hnr)
                  unfold gotW at this
                  rw [← NE.out] at this
                  simp only [node_k, node_i, node_ks, hlen] at this
                  exact this
end Go.Proofs.Ytkncchhalahpoaa
