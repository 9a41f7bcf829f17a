/- Texts of this proof, one behind the other. -/
import Derived.Test.YtkbgpajconhgjaaGreatDoorPersonLinesG6
import Derived.Test.YtkbgpajconhgjaaGreatDoorPersonLinesG8
set_option linter.unusedVariables false
set_option linter.unusedSimpArgs false
section
/- Layer 22: the document's Pack. -/
namespace Go.Proofs.YtkbgpajconhgjaaGreatDoor
open Go Go.RowKit

theorem mkE (w0 W : World) (h : w0.alloc (.cells #[] 9) = W) : OwnT w0.heap.size W (.slice (some ⟨w0.heap.size, 0, none⟩) 0 0) [] ∧ W.heap.size = w0.heap.size + 1 ∧ Fr (fun _ => False) w0 W := by
  subst h
  exact ⟨⟨by simp, .inr ⟨w0.heap.size, 0, #[], rfl, Nat.le_refl _, heap_alloc_new w0 _, by simp, by decide, by simp, by simp⟩⟩, by simp, (Fr.refl _ w0).alloc _⟩
theorem mkX (w0 W : World) (x : List UInt8) (h : w0.alloc (.cells #[.string (bs x)] 9) = W) : ReadsT W (some ⟨w0.heap.size, 0, none⟩) [x] ∧ W.heap.size = w0.heap.size + 1 ∧ Fr (fun _ => False) w0 W := by
  subst h
  exact ⟨reads_lit (heap_alloc_new w0 _) (by simp), by simp, (Fr.refl _ w0).alloc _⟩
theorem readsT_frX {X : Nat → Prop} {w W : World} {g o : Nat} {xs : List (List UInt8)} (h : ReadsT w (some ⟨g, o, none⟩) xs) (hf : Fr X w W) (hx : ¬ X g) : ReadsT W (some ⟨g, o, none⟩) xs := fun h0 => by
  obtain ⟨g', o', e, hg, hc⟩ := h h0
  cases e
  exact ⟨_, _, rfl, Nat.lt_of_lt_of_le hg hf.size, fun j hj => (hf.cell (p := ⟨g, o + j, none⟩) hg hx).trans (hc j hj)⟩
theorem ownT_size {base : Nat} {w : World} {v : Value} {xs : List (List UInt8)} (h : OwnT base w v xs) (hb : base ≤ w.heap.size) : base ≤ w.heap.size := hb
theorem fr_frozen {w W : World} {g k : Nat} (hf : Fr (fun _ => False) w W) (hg : g < w.heap.size) : W.frozen? ⟨g, k, none⟩ = w.frozen? ⟨g, k, none⟩ := World.frozen?_of_block (hf.block g hg fun e => e)
theorem ownT_at {base : Nat} {w : World} {g n c : Nat} {xs : List (List UInt8)} (h : OwnT base w (.slice (some ⟨g, 0, none⟩) n c) xs) (hn : xs.length = n) (k : Nat) (hk : k < n) : w.cell? ⟨g, k, none⟩ = some (.string (bs (xs[k]'(by omega)))) ∧ w.frozen? ⟨g, k, none⟩ = false := by
  rcases h.2 with ⟨hv, h0⟩ | ⟨g', cap, cur, hv, hb, hg, hn', hm, hs, ht⟩
  · cases hv
  · injection hv with q1 q2 q3
    injection q1 with q1
    injection q1 with q1 _ _
    subst q1
    refine ⟨?_, blk_free hg k⟩
    have h1 : (cur.toList.take (xs.length * 1))[k]? = (xs.map encT)[k]? := by rw [ht]
    rw [List.getElem?_take_of_lt (by omega), Array.getElem?_toList] at h1
    rw [blk_cell hg k, h1]; simp [hn, hk, encT]
theorem ownT_set {base : Nat} {w : World} {g n c : Nat} {xs : List (List UInt8)} (h : OwnT base w (.slice (some ⟨g, 0, none⟩) n c) xs) (hn : xs.length = n) (k : Nat) (hk : k < n) (x : List UInt8) : OwnT base (w.setCell ⟨g, k, none⟩ (.string (bs x))) (.slice (some ⟨g, 0, none⟩) n c) (xs.set k x) := by
  obtain ⟨h1, h2⟩ := h
  refine ⟨by simp, ?_⟩
  rcases h2 with ⟨h3, _⟩ | ⟨g', cap, cur, h3, hb, hg, hn', hm, hs, ht⟩
  · cases h3
  · injection h3 with q1 q2 q3
    injection q1 with q1
    injection q1 with q1 _ _
    subst q1
    subst q3
    refine .inr ⟨g, c, cur.setIfInBounds k (.string (bs x)), by rw [List.length_set, hn], hb, blk_set hg k _, by rw [List.length_set]; exact hn', hm, by simpa using hs, ?_⟩
    rw [Array.toList_setIfInBounds, List.length_set, List.take_set, ht, List.map_set]
    rfl
theorem step_set (f : List UInt8 → List UInt8) (R : List (List UInt8)) (k : Nat) (hk : k < R.length) : ((R.take k).map f ++ R.drop k).set k (f (R[k])) = (R.take (k + 1)).map f ++ R.drop (k + 1) := by
  have hl : ((R.take k).map f).length = k := by rw [List.length_map, List.length_take]; omega
  rw [List.set_append_right _ _ (by omega), hl, Nat.sub_self, List.drop_eq_getElem_cons hk, List.set_cons_zero, List.take_succ_eq_append_getElem hk, List.map_append]
  simp
theorem whole_snoc (l : List (List UInt8)) (x : List UInt8) : wholeL (l ++ [x]) = wholeL l ++ (if bareL x = [] then [] else [bareL x]) := by
  unfold wholeL
  rw [List.map_append, List.filter_append]
  congr 1
  by_cases h : bareL x = []
  · rw [if_pos h]; simp [h]
  · rw [if_neg h]; simp [h]
set_option maxRecDepth 100000 in
set_option maxHeartbeats 16000000 in
theorem pack_r (server whom : List UInt8) (n : Nat) (A : Option Addr) (c : Nat) (ps ws : List (List UInt8)) (Aw : Option Addr) (cw : Nat) (w : World) (hw : whom ≠ []) (hR : ReadsT w A ps) (hRw : ReadsT w Aw ws) (hx : ∀ x ∈ ws, x.length ≤ 500) (hxl : ws.length ≤ 1000)
    (h0 : 1 ≤ n) (h1 : n ≤ 999) (h2 : ps.length ≤ 13) (hsv : server.length ≤ 90000) (hwh : whom.length ≤ 90000) (h5 : ∀ p ∈ ps, p.length ≤ 90000) (h8 : longN server (whom :: ps) ≤ 510) :
    Calls Tryz.prog 25 #[.string (bs server), .int .i64 n, .string (bs whom), .slice A ps.length c, .slice Aw ws.length cw] w fun e w' => ∃ A2 c2, e = .returned (.slice A2 (packL server whom n ps ws).length c2) ∧ ReadsT w' A2 (packL server whom n ps ws) ∧ Below w.heap.size w w' := by
  obtain ⟨i0, hi0, hz0, hz1, hz2⟩ := info_parts Tryz.infoT
  have hae := ahead_eq (n := n) hw h8
  obtain ⟨ah, hah⟩ : ∃ ah, longN server (whom :: ps) = ah := ⟨_, rfl⟩
  obtain ⟨f, hf⟩ : ∃ f : List UInt8 → List UInt8, ∀ x, numL server whom n (ps ++ [x]) = f x := ⟨_, fun _ => rfl⟩
  have HPK : Hid (packL server whom n ps ws = (rowsP ah (wholeL ws)).map f) := Lib.hid (by unfold packL; rw [hae, hah]; exact List.map_congr_left fun x _ => hf x)
  have HLong : Hid (∀ (last : List UInt8) (W : World), last.length ≤ 90000 → Below w.heap.size w W → Calls Tryz.prog 37 #[.string (bs server), .int .i64 n, .string (bs whom), .slice A ps.length c, .string (bs last)] W fun e w' => e = .returned (.int .i64 ((ah + last.length : Nat) : Int)) ∧ Below W.heap.size W w') := Lib.hid fun last W hl hb => by
    rw [← hah]; exact long_r server whom last n A c ps W hw (readsT_below hR hb (Nat.le_refl _)) h2 hsv hwh h5 hl
  have HNum2 : Hid (∀ x : List UInt8, x.length ≤ 510 → ∀ W A13 c13, ReadsT W A13 (ps ++ [x]) → Calls Tryz.prog 17 #[.string (bs server), .int .i64 n, .string (bs whom), .slice A13 (ps.length + 1) c13] W fun e w' => e = .returned (.string (bs (f x))) ∧ Below W.heap.size W w') := Lib.hid fun x hx W A13 c13 hr => by
    have h := numeric_r server whom n A13 c13 (ps ++ [x]) W hr h0 h1 (by rw [List.length_append]; simp; omega) (by omega) hwh (fun p hp => by
      rcases List.mem_append.1 hp with h | h
      · exact h5 p h
      · rw [List.mem_singleton.1 h]; omega)
    rw [hf, List.length_append] at h
    exact h
  have HR := Lib.hid hR
  have HRw := Lib.hid hRw
  have hah5 : ah ≤ 510 := by omega
  have q1 : ¬ (n : Int) < 1 := by omega
  have q2 : ¬ (999 : Int) < n := by omega
  have q3 : ¬ (13 : Int) < ps.length := by omega
  clear hR hRw h8 hah hf hae
  go_enter Tryz.func25, Tryz.ntmps25
  go_wp2_with fail
  go_loopw [11, 12] (fun v i wr => ∃ k : Nat, i = .int .i64 k ∧ k ≤ ws.length ∧ OwnT w.heap.size wr v (rowsD (packF ah (wholeL (ws.take k)))) ∧ Below w.heap.size w wr) (fun _ i _ => ws.length - (Go.RowKit.intOf i).toNat)
  case atStart => exact ⟨0, rfl, Nat.zero_le _, ownT_nil _ _, Below.refl _ _⟩
  case round =>
    obtain ⟨k, rfl, hk, hown, hB⟩ := hrel
    have hwk : ∀ y ∈ wholeL (ws.take k), y.length ≤ 500 ∧ y ≠ [] := whole_ok fun y hy => hx y (List.mem_of_mem_take hy)
    obtain ⟨hPk, hPl⟩ := pkOk_all (ah := ah) hwk
    have hPl2 : (packF ah (wholeL (ws.take k))).1.length ≤ 1000 := by have := whole_len (ws.take k); rw [List.length_take] at this; omega
    have hsn : ∀ y, packF ah (wholeL (ws.take k) ++ [y]) = packS ah (packF ah (wholeL (ws.take k))) y := packF_snoc ah _
    have hbz := hB.size
    by_cases hlt : k < ws.length
    · obtain ⟨g, o, hA, hg, hc⟩ := HRw.out (by omega)
      have hcell : wr.cell? ⟨g, o + k, none⟩ = some (.string (bs ws[k])) := (hB.cell (p := ⟨g, o + k, none⟩) hg).trans (hc k hlt)
      have hpk := hx ws[k] (List.getElem_mem hlt)
      have htk : wholeL (ws.take (k + 1)) = wholeL (ws.take k) ++ (if bareL ws[k] = [] then [] else [bareL ws[k]]) := by rw [List.take_succ_eq_append_getElem hlt, whole_snoc]
      obtain ⟨s, hs⟩ : ∃ s, packF ah (wholeL (ws.take k)) = s := ⟨_, rfl⟩
      rw [hs] at hPk hPl2 hsn hown
      obtain ⟨x, hxk⟩ : ∃ x, ws[k]'hlt = x := ⟨_, rfl⟩
      rw [hxk] at hcell hpk htk
      have HBr := Lib.hid (bare_r x wr (by omega))
      have hbl := bareL_len x
      obtain ⟨q, hq⟩ : ∃ q, bareL x = q := ⟨_, rfl⟩
      rw [hq] at HBr hbl htk
      obtain ⟨rs, la⟩ := s
      dsimp only at hPl2
      obtain ⟨hla, hrs, hemp⟩ := hPk
      dsimp only at hla hrs hemp
      have HT := Lib.hid (And.intro htk (And.intro hs hsn))
      have HO := Lib.hid (And.intro hown hB)
      have hadd : (⟨g, o, none⟩ : Addr).add k = ⟨g, o + k, none⟩ := by unfold Addr.add; split <;> simp_all
      have hsk : k < 1000 := by omega
      clear htk hs hsn hwk hPl hg hc hxk hq
      subst hA
      cases q with
      | nil =>
        have hN : Hid (packF ah (wholeL (ws.take (k + 1))) = (rs, la)) := Lib.hid (by rw [HT.out.1, if_pos rfl, List.append_nil, HT.out.2.1])
        have e0 : bs ([] : List UInt8) = ({ data := #[] } : ByteArray) := rfl
        rw [e0] at HBr
        clear e0 hown hB
        go_wp2_with fail
        refine HBr.out.mono ?_
        rintro e w' ⟨rfl, rfl⟩
        go_wp2_with fail
        go_roundw
        case rel => exact ⟨k + 1, by go_num, by omega, by rw [hN.out]; exact HO.out.1, HO.out.2⟩
        case measure => simp [Go.RowKit.intOf]; omega
      | cons q0 qr =>
        have hqne := str_ne (s := bs (q0 :: qr)) (by simp)
        have hql : qr.length ≤ 500 := by simp only [List.length_cons] at hbl; omega
        have hN : Hid (packF ah (wholeL (ws.take (k + 1))) = packS ah (rs, la) (q0 :: qr)) := Lib.hid (by rw [HT.out.1, if_neg (by simp), HT.out.2.2])
        have HApp : Hid (∀ (w1 w2 : World) (v2 : Value) (R : List (List UInt8)), Below w.heap.size w w1 → (∀ kk, (v2.ownBlock = some kk) → w.heap.size ≤ kk ∧ kk < w2.heap.size) → True) := Lib.hid fun _ _ _ _ _ _ => trivial
        cases la with
        | nil =>
          obtain rfl : rs = [] := hemp rfl
          have hown0 : OwnT w.heap.size wr _ [] := hown
          obtain ⟨A3, c3, hv3⟩ := row_slice hown0
          subst hv3
          have hN2 : Hid (packS ah ([], []) (q0 :: qr) = ([], q0 :: qr)) := Lib.hid (if_pos rfl)
          have HO0 := Lib.hid hown0
          have hsl0 : ([] : List (List UInt8)).length = 0 := rfl
          rw [hsl0] at *
          clear hown hB hown0 hemp
          go_wp2_with fail
          refine HBr.out.mono ?_
          rintro e w' ⟨rfl, rfl⟩
          go_wp2_with (at_builtin; refine wpList_app_fr rfl _ _ 26 rfl w.heap.size 9 i0 (.string ByteArray.empty) 1 16 Tryz.underlying26 hi0 hz0 hz1 hz2 rfl (by decide) (.slice A3 0 c3) 0 ([].map encT) rfl HO0.out #[.string (bs (q0 :: qr))] wr.heap.size rfl rfl rfl (by intro u hu; simp at hu; subst hu; rfl) (by omega) (by decide) hbz ?_)
          intro v1 w3 hown3 hfr3
          have H3 := Lib.hid (And.intro (ownT_snoc (xs := []) (x := q0 :: qr) hown3) hfr3)
          clear hown3 hfr3
          go_wp2_with fail
          go_roundw
          case rel =>
            refine ⟨k + 1, by go_num, by omega, ?_, HO.out.2.trans (H3.out.2.below hbz fun k _ hk => ?_)⟩
            · rw [hN.out, hN2.out]
              exact H3.out.1
            · exact (HO0.out.lt k hk).1
          case measure => simp [Go.RowKit.intOf]; omega
        | cons a0 ar =>
          have hal : ar.length ≤ 509 := by simp only [List.length_cons] at hla; omega
          have hRD : rowsD (rs, a0 :: ar) = rs ++ [a0 :: ar] := if_neg (by simp)
          rw [hRD] at hown
          obtain ⟨A3, c3, hv3⟩ := row_slice hown
          subst hv3
          have hlen : (rs ++ [a0 :: ar]).length = rs.length + 1 := by simp
          have hown1 : OwnT w.heap.size wr (.slice A3 (rs.length + 1) c3) (rs ++ [a0 :: ar]) := by rw [hlen] at hown; exact hown
          obtain ⟨g3, rfl⟩ : ∃ g3, A3 = some ⟨g3, 0, none⟩ := by
            rcases hown1.2 with ⟨hv, _⟩ | ⟨g', _, _, hv, _⟩
            · cases hv
            · injection hv with q1; exact ⟨g', q1⟩
          have hc3 := ownT_at hown1 hlen rs.length (by omega)
          rw [List.getElem_append_right (by omega)] at hc3
          simp only [Nat.sub_self, List.getElem_cons_zero] at hc3
          have hc3a := hc3.1
          have hca : (a0 :: ar).length + 1 + (q0 :: qr).length = ((a0 :: ar) ++ 32 :: (q0 :: qr)).length := by rw [List.length_append, List.length_cons, List.length_cons, List.length_cons, List.length_cons]; omega
          have HLg := Lib.hid (HLong.out ((a0 :: ar) ++ 32 :: (q0 :: qr)) wr (by rw [← hca]; simp; omega) hB)
          rw [← bs_pre2] at HLg
          obtain ⟨tot, htot⟩ : ∃ tot, ah + ((a0 :: ar) ++ 32 :: (q0 :: qr)).length = tot := ⟨_, rfl⟩
          rw [htot] at HLg
          have hz3 : (0 : Nat) + rs.length = rs.length := Nat.zero_add _
          have hge : ¬ ((rs.length : Int) + 1 - 1 < 0) := by omega
          have HO1 := Lib.hid hown1
          clear hown hown1 hRD hc3
          by_cases hfit : tot ≤ 510
          · have hfit2 : ah + (a0 :: ar).length + 1 + (q0 :: qr).length ≤ 510 := by omega
            have hN2 : Hid (packS ah (rs, a0 :: ar) (q0 :: qr) = (rs, (a0 :: ar) ++ 32 :: (q0 :: qr))) := Lib.hid (by unfold packS; rw [if_neg (by simp), if_pos hfit2])
            have hi5 : (tot : Int) ≤ 510 := by omega
            have HTot := Lib.hid (And.intro htot hlen)
            clear hfit hfit2 hB hca htot hlen
            go_wp2_with fail
            refine HBr.out.mono ?_
            rintro e w' ⟨rfl, rfl⟩
            go_wp2_with fail
            refine HLg.out.mono ?_
            rintro e w1 ⟨rfl, hb1⟩
            have hf1 : Fr (fun _ => False) wr w1 := Fr.of_below hb1
            have HO2 := Lib.hid (ownT_fr HO1.out hf1 fun _ _ e => e)
            have hc4 := ownT_at HO2.out HTot.out.2 rs.length (by omega)
            rw [List.getElem_append_right (by omega)] at hc4
            simp only [Nat.sub_self, List.getElem_cons_zero] at hc4
            obtain ⟨hc4a, hc4b⟩ := hc4
            have HB1 := Lib.hid hb1
            clear hb1 hf1 hc3a
            go_wp2_with fail
            go_roundw
            case rel =>
              refine ⟨k + 1, by go_num, by omega, ?_, (HO.out.2.trans (HB1.out.mono hbz)).setCell ((HO2.out.lt g3 rfl).1) _⟩
              rw [hN.out, hN2.out]
              have h9 := ownT_set HO2.out HTot.out.2 rs.length (by omega) ((a0 :: ar) ++ 32 :: (q0 :: qr))
              rw [List.set_append_right _ _ (Nat.le_refl _), Nat.sub_self, List.set_cons_zero] at h9
              have h10 : rowsD (rs, (a0 :: ar) ++ 32 :: (q0 :: qr)) = rs ++ [(a0 :: ar) ++ 32 :: (q0 :: qr)] := if_neg (by simp)
              rw [h10]
              rw [← bs_pre2] at h9
              exact h9
            case measure => simp [Go.RowKit.intOf]; omega
          · have hfit2 : ¬ ah + (a0 :: ar).length + 1 + (q0 :: qr).length ≤ 510 := by omega
            have hN2 : Hid (packS ah (rs, a0 :: ar) (q0 :: qr) = (rs ++ [a0 :: ar], q0 :: qr)) := Lib.hid (by unfold packS; rw [if_neg (by simp), if_neg hfit2])
            have hi5 : ¬ (tot : Int) ≤ 510 := by omega
            have HTot := Lib.hid (And.intro htot hlen)
            clear hfit hfit2 hB hca htot hlen
            go_wp2_with fail
            refine HBr.out.mono ?_
            rintro e w' ⟨rfl, rfl⟩
            go_wp2_with fail
            refine HLg.out.mono ?_
            rintro e w1 ⟨rfl, hb1⟩
            have hf1 : Fr (fun _ => False) wr w1 := Fr.of_below hb1
            have HO2 := Lib.hid (ownT_fr HO1.out hf1 fun _ _ e => e)
            have HB1 := Lib.hid hb1
            have hb1z : w.heap.size ≤ w1.heap.size := Nat.le_trans hbz hb1.size
            obtain ⟨RR, hRR⟩ : ∃ RR, rs ++ [a0 :: ar] = RR := ⟨_, rfl⟩
            have HOr : Hid (w1.ownsRow w.heap.size 9 1 (.slice (some ⟨g3, 0, none⟩) (rs.length + 1) c3) (rs.length + 1) (RR.map encT)) := Lib.hid (by have h9 := HO2.out; unfold OwnT at h9; rw [hRR] at h9; rw [← hRR, HTot.out.2, hRR] at h9; exact h9)
            have HRR := Lib.hid hRR
            clear hb1 hf1 hc3a hRR
            go_wp2_with (at_builtin; refine wpList_app_fr rfl _ _ 26 rfl w.heap.size 9 i0 (.string ByteArray.empty) 1 16 Tryz.underlying26 hi0 hz0 hz1 hz2 rfl (by decide) (.slice (some ⟨g3, 0, none⟩) (rs.length + 1) c3) (rs.length + 1) (RR.map encT) rfl HOr.out #[.string (bs (q0 :: qr))] w1.heap.size rfl rfl rfl (by intro u hu; simp at hu; subst hu; rfl) (by omega) (by decide) hb1z ?_)
            intro v1 w3 hown3 hfr3
            have H3 := Lib.hid (And.intro hown3 hfr3)
            clear hown3 hfr3
            go_wp2_with fail
            go_roundw
            case rel =>
              refine ⟨k + 1, by go_num, by omega, ?_, (HO.out.2.trans (HB1.out.mono hbz)).trans (H3.out.2.below hb1z fun k _ hk => ?_)⟩
              · rw [hN.out, hN2.out]
                have h10 : rowsD (rs ++ [a0 :: ar], q0 :: qr) = RR ++ [q0 :: qr] := by rw [← HRR.out]; exact if_neg (by simp)
                rw [h10]
                have hrl : RR.length = rs.length + 1 := by rw [← HRR.out]; exact HTot.out.2
                refine ownT_snoc ?_
                rw [hrl]
                exact H3.out.1
              · exact (HO2.out.lt k hk).1
            case measure => simp [Go.RowKit.intOf]; omega
    · obtain rfl : k = ws.length := by omega
      rw [List.take_length] at hown hPk hPl2
      have HPKr := HPK.out
      unfold rowsP at HPKr
      obtain ⟨s, hs⟩ : ∃ s, packF ah (wholeL ws) = s := ⟨_, rfl⟩
      rw [hs] at hPk hPl2 hown HPKr
      obtain ⟨rs, la⟩ := s
      dsimp only at hPl2 HPKr
      obtain ⟨hla, hrs, hemp⟩ := hPk
      dsimp only at hla hrs hemp
      clear hsn hwk hPl hs
      cases la with
      | nil =>
        obtain rfl : rs = [] := hemp rfl
        have hown0 : OwnT w.heap.size wr _ [] := hown
        obtain ⟨A3, c3, hv3⟩ := row_slice hown0
        subst hv3
        have hsl0 : ([] : List (List UInt8)).length = 0 := rfl
        rw [hsl0] at *
        obtain ⟨R, hR⟩ : ∃ R : List (List UInt8), [[]] = R := ⟨_, rfl⟩
        have HPk : Hid (packL server whom n ps ws = R.map f) := Lib.hid (by rw [HPKr, ← hR]; rfl)
        have hlit := ownT_lit (W := wr.alloc (.cells #[.string (bs [])] 9)) (B := wr.heap.size) (base := w.heap.size) (xs := R) hbz (by rw [← hR]; exact heap_alloc_new wr _) (by rw [← hR]; simp)
        have hBl : Below w.heap.size w (wr.alloc (.cells #[.string (bs [])] 9)) := hB.alloc hbz _
        have HRl : Hid (∀ r ∈ R, r.length ≤ 510) := Lib.hid fun r hr => by rw [← hR] at hr; rw [List.mem_singleton.1 hr]; simp
        have HL1 : Hid (R.length = 1) := Lib.hid (by rw [← hR]; rfl)
        have HPre := Lib.hid (And.intro hlit hBl)
        clear hown hown0 hemp hlit hBl hB HPKr hrs hla hPl2 hR
        go_wp2_with fail
        obtain ⟨g, hg⟩ : ∃ g, wr.heap.size = g := ⟨_, rfl⟩
        obtain ⟨W9, hW9⟩ : ∃ W, wr.alloc (.cells #[.string ({ data := #[] } : ByteArray)] 9) = W := ⟨_, rfl⟩
        have HOL0 : OwnT w.heap.size W9 (.slice (some ⟨g, 0, none⟩) R.length R.length) R ∧ Below w.heap.size w W9 := by rw [← hW9, ← hg]; exact HPre.out
        rw [hg, hW9]
        obtain ⟨cv, hcv⟩ : ∃ cv, R.length = cv := ⟨_, rfl⟩
        have HOL : OwnT w.heap.size W9 (.slice (some ⟨g, 0, none⟩) R.length cv) R ∧ Below w.heap.size w W9 := by rw [← hcv]; exact HOL0
        rw [show (Value.slice (some ⟨g, 0, none⟩) 1 1) = Value.slice (some ⟨g, 0, none⟩) R.length cv by rw [← hcv, HL1.out]]
        have HCV := Lib.hid hcv
        have hRb : R.length ≤ 2000 := by rw [HL1.out]; omega
        clear hg hW9 HOL0 hcv hbz HPre
        have HOl := Lib.hid HOL
        clear HOL
        go_loopw [15] (fun i wr => ∃ k : Nat, i = .int .i64 k ∧ k ≤ R.length ∧ OwnT w.heap.size wr (.slice (some ⟨g, 0, none⟩) R.length cv) ((R.take k).map f ++ R.drop k) ∧ Below w.heap.size w wr) (fun i _ => R.length - (Go.RowKit.intOf i).toNat)
        case atStart => exact ⟨0, rfl, Nat.zero_le _, by simpa using HOl.out.1, HOl.out.2⟩
        case round =>
          obtain ⟨k, rfl, hk, hown, hB⟩ := hrel
          by_cases hlt : k < R.length
          · have hcl : ((R.take k).map f ++ R.drop k).length = R.length := by rw [List.length_append, List.length_map, List.length_take, List.length_drop]; omega
            have hck := ownT_at hown hcl k hlt
            have hgk : ((R.take k).map f ++ R.drop k)[k]'(by rw [hcl]; exact hlt) = R[k] := by
              rw [List.getElem_append_right (by rw [List.length_map, List.length_take]; omega)]
              simp only [List.length_map, List.length_take, List.getElem_drop]
              congr 1
              omega
            rw [hgk] at hck
            have hset := ownT_set hown hcl k hlt
            have hstep := step_set f R k hlt
            have hxl := HRl.out R[k] (List.getElem_mem hlt)
            have HNum0 := Lib.hid (HNum2.out R[k] hxl)
            obtain ⟨x, hx⟩ : ∃ x, R[k]'hlt = x := ⟨_, rfl⟩
            rw [hx] at hck hstep HNum0
            have hgw : g < wr.heap.size := World.block_lt_of_cell? _ _ hck.1
            have HCELL : Hid (∀ W, Fr (fun _ => False) wr W → W.cell? ⟨g, 0 + k, none⟩ = some (.string (bs x))) := Lib.hid fun W hf => (hf.cell (p := ⟨g, 0 + k, none⟩) hgw (fun h => h)).trans (by rw [Nat.zero_add]; exact hck.1)
            have HCELL2 : Hid (∀ W, Fr (fun _ => False) wr W → W.cell? ⟨g, k, none⟩ = some (.string (bs x))) := Lib.hid fun W hf => (hf.cell (p := ⟨g, k, none⟩) hgw (fun h => h)).trans hck.1
            have HST : Hid (∀ W, Fr (fun _ => False) wr W → W.cell? ⟨g, k, none⟩ = some (.string (bs x)) ∧ W.frozen? ⟨g, k, none⟩ = false) := Lib.hid fun W hf => ⟨HCELL2.out W hf, (fr_frozen hf hgw).trans hck.2⟩
            have HHd : Hid (∀ W, Fr (fun _ => False) wr W → ReadsT W A ps) := Lib.hid fun W hf => readsT_fr0 (readsT_below HR.out hB (Nat.le_refl _)) hf
            have HEnd : Hid (∀ W, Fr (fun _ => False) wr W → OwnT w.heap.size (W.setCell ⟨g, k, none⟩ (.string (bs (f x)))) (.slice (some ⟨g, 0, none⟩) R.length cv) ((R.take (k + 1)).map f ++ R.drop (k + 1)) ∧ Below w.heap.size w (W.setCell ⟨g, k, none⟩ (.string (bs (f x))))) := Lib.hid fun W hf => by
              have h1 := ownT_set (ownT_fr hown hf fun _ _ e => e) hcl k hlt (f x)
              rw [hstep] at h1
              refine ⟨h1, (hB.trans ((fr_below_no hf).mono hB.size)).setCell ?_ _⟩
              exact (hown.lt g rfl).1
            have HNum : Hid (∀ W A13 c13, ReadsT W A13 (ps ++ [x]) → Calls Tryz.prog 17 #[.string (bs server), .int .i64 n, .string (bs whom), .slice A13 (ps.length + 1) c13] W fun e w' => e = .returned (.string (bs (f x))) ∧ Below W.heap.size W w') := HNum0
            have hz0k : (0 : Nat) + k = k := Nat.zero_add k
            clear hown hB hck hset hstep hxl hx hgw hcl hgk HNum0
            go_wp2_with fail
            refine wp_region_z (S := fun W => Fr (fun _ => False) wr W) (z := 16) (by kernel_rfl) (by exact (Fr.refl _ wr).drew) (fun hHeld => ?_)
            obtain ⟨w0, hw0⟩ : ∃ W, wr.drew = W := ⟨_, rfl⟩
            rw [hw0] at hHeld ⊢
            clear hw0
            have F0 : Fr (fun _ => False) wr w0 := hHeld
            refine wpAnyZ_read (i := 0) (oi := { dst := some 84, op := Go.Op.move (Go.Operand.tmp 11), type := 26, pos := "ref.go:103", after := #[], guard := none }) ?_ rfl (by kernel_rfl) (by kernel_rfl) (by kernel_rfl) (by kernel_rfl) (fun _ _ _ h => h) (by rfl) (by exact hHeld) ?_ ?_
            rotate_left
            · (intro w0 hS0; go_simp <;> (try with_reducible rfl))
            try simp only [Act.put, List.setIfInBounds_toArray, List.set_cons_zero, List.set_cons_succ]
            refine wpAnyZ_read (i := 1) (oi := { dst := some 85, op := Go.Op.move (Go.Operand.tmp 15), type := 3, pos := "ref.go:103", after := #[], guard := none }) ?_ rfl (by kernel_rfl) (by kernel_rfl) (by kernel_rfl) (by kernel_rfl) (fun _ _ _ h => h) (by rfl) (by exact hHeld) ?_ ?_
            rotate_left
            · (intro w0 hS0; go_simp <;> (try with_reducible rfl))
            try simp only [Act.put, List.setIfInBounds_toArray, List.set_cons_zero, List.set_cons_succ]
            refine wpAnyZ_read (i := 2) (oi := { dst := some 86, op := Go.Op.move (Go.Operand.tmp 0), type := 9, pos := "ref.go:103", after := #[], guard := none }) ?_ rfl (by kernel_rfl) (by kernel_rfl) (by kernel_rfl) (by kernel_rfl) (fun _ _ _ h => h) (by rfl) (by exact hHeld) ?_ ?_
            rotate_left
            · (intro w0 hS0; go_simp <;> (try with_reducible rfl))
            try simp only [Act.put, List.setIfInBounds_toArray, List.set_cons_zero, List.set_cons_succ]
            refine wpAnyZ_read (i := 3) (oi := { dst := some 87, op := Go.Op.move (Go.Operand.tmp 1), type := 3, pos := "ref.go:103", after := #[], guard := none }) ?_ rfl (by kernel_rfl) (by kernel_rfl) (by kernel_rfl) (by kernel_rfl) (fun _ _ _ h => h) (by rfl) (by exact hHeld) ?_ ?_
            rotate_left
            · (intro w0 hS0; go_simp <;> (try with_reducible rfl))
            try simp only [Act.put, List.setIfInBounds_toArray, List.set_cons_zero, List.set_cons_succ]
            refine wpAnyZ_read (i := 4) (oi := { dst := some 88, op := Go.Op.move (Go.Operand.tmp 2), type := 9, pos := "ref.go:103", after := #[], guard := none }) ?_ rfl (by kernel_rfl) (by kernel_rfl) (by kernel_rfl) (by kernel_rfl) (fun _ _ _ h => h) (by rfl) (by exact hHeld) ?_ ?_
            rotate_left
            · (intro w0 hS0; go_simp <;> (try with_reducible rfl))
            try simp only [Act.put, List.setIfInBounds_toArray, List.set_cons_zero, List.set_cons_succ]
            refine wpAnyZ_read (i := 6) (oi := { dst := some 90, op := Go.Op.move (Go.Operand.tmp 3), type := 26, pos := "ref.go:103", after := #[], guard := none }) ?_ rfl (by kernel_rfl) (by kernel_rfl) (by kernel_rfl) (by kernel_rfl) (fun _ _ _ h => h) (by rfl) (by exact hHeld) ?_ ?_
            rotate_left
            · (intro w0 hS0; go_simp <;> (try with_reducible rfl))
            try simp only [Act.put, List.setIfInBounds_toArray, List.set_cons_zero, List.set_cons_succ]
            refine wpAnyZ_read (i := 8) (oi := { dst := some 92, op := Go.Op.move (Go.Operand.tmp 11), type := 26, pos := "ref.go:103", after := #[], guard := none }) ?_ rfl (by kernel_rfl) (by kernel_rfl) (by kernel_rfl) (by kernel_rfl) (fun _ _ _ h => h) (by rfl) (by exact hHeld) ?_ ?_
            rotate_left
            · (intro w0 hS0; go_simp <;> (try with_reducible rfl))
            try simp only [Act.put, List.setIfInBounds_toArray, List.set_cons_zero, List.set_cons_succ]
            refine wpAnyZ_read (i := 9) (oi := { dst := some 93, op := Go.Op.move (Go.Operand.tmp 15), type := 3, pos := "ref.go:103", after := #[], guard := none }) ?_ rfl (by kernel_rfl) (by kernel_rfl) (by kernel_rfl) (by kernel_rfl) (fun _ _ _ h => h) (by rfl) (by exact hHeld) ?_ ?_
            rotate_left
            · (intro w0 hS0; go_simp <;> (try with_reducible rfl))
            try simp only [Act.put, List.setIfInBounds_toArray, List.set_cons_zero, List.set_cons_succ]
            refine wpAnyZ_read (i := 10) (oi := { dst := some 94, op := Go.Op.indexAddr 26 (Go.Operand.tmp 92) (Go.Operand.tmp 93), type := 0, pos := "ref.go:103", after := #[{ on := 8, ground := Go.Ground.data }, { on := 9, ground := Go.Ground.data }], guard := none }) ?_ rfl (by kernel_rfl) (by kernel_rfl) (by kernel_rfl) (by kernel_rfl) (fun _ _ _ h => h) (by rfl) (by exact hHeld) ?_ ?_
            rotate_left
            · (intro w0 hS0; go_simp <;> (try with_reducible rfl))
            try simp only [Act.put, List.setIfInBounds_toArray, List.set_cons_zero, List.set_cons_succ]
            refine wpAnyZ_read (i := 11) (oi := { dst := some 95, op := Go.Op.load 9 (Go.Operand.tmp 94), type := 9, pos := "ref.go:103", after := #[{ on := 10, ground := Go.Ground.data }], guard := none }) ?_ rfl (by kernel_rfl) (by kernel_rfl) (by kernel_rfl) (by kernel_rfl) (fun _ _ _ h => h) (by rfl) (by exact hHeld) ?_ ?_
            rotate_left
            · (intro w0 hS0; have s0 := HCELL2.out w0 hS0; go_simp <;> (try with_reducible rfl))
            try simp only [Act.put, List.setIfInBounds_toArray, List.set_cons_zero, List.set_cons_succ]
            refine wpAnyZ_two (i := 5) (j := 12) (o := { dst := some 89, op := Go.Op.buildSlice 26 0 #[], type := 26, pos := "ref.go:103", after := #[], guard := none }) (o2 := { dst := some 96, op := Go.Op.buildSlice 26 1 #[(0, Go.Operand.tmp 95)], type := 26, pos := "ref.go:103", after := #[{ on := 11, ground := Go.Ground.data }], guard := none }) (by kernel_rfl) rfl rfl (by rfl) (by rfl) (fun K hK => ?_) (fun K hK => ?_)
            · go_simp
              obtain ⟨u1, hu1⟩ : ∃ W, w0.alloc (.cells #[] 9) = W := ⟨_, rfl⟩
              rw [hu1]
              obtain ⟨p5, s5, q5⟩ := mkE w0 u1 hu1
              have S5 := Lib.hid s5
              clear s5
              have F1 : Fr (fun _ => False) wr u1 := (F0).trans q5
              have z5 : wr.heap.size ≤ w0.heap.size := (F0).size
              refine hK.out _ _ ?_ (fun hHeld => ?_)
              · exact F1
              clear hK K
              try simp only [Act.put, List.setIfInBounds_toArray, List.set_cons_zero, List.set_cons_succ]
              refine wpAnyZ_two (i := 7) (j := 12) (o := { dst := some 91, op := Go.Op.call { callee := Go.Callee.builtin Go.Builtin.append, args := #[Go.Operand.tmp 89, Go.Operand.tmp 90], argTypes := #[26, 26] }, type := 26, pos := "ref.go:103", after := #[{ on := 5, ground := Go.Ground.data }, { on := 6, ground := Go.Ground.data }], guard := none }) (o2 := { dst := some 96, op := Go.Op.buildSlice 26 1 #[(0, Go.Operand.tmp 95)], type := 26, pos := "ref.go:103", after := #[{ on := 11, ground := Go.Ground.data }], guard := none }) (by kernel_rfl) rfl rfl (by rfl) (by rfl) (fun K hK => ?_) (fun K hK => ?_)
              · obtain ⟨v7, u2, hr7, r7, f7, t7⟩ := run_app_any (P := Tryz.prog) u1 w0.heap.size 26 26 26 9 i0 _ 1 16 Tryz.underlying26 hi0 hz0 hz1 hz2 rfl (.slice (some ⟨w0.heap.size, 0, none⟩) 0 0) 0 [] p5 (.slice A ps.length c) ps.length (ps.map encT) (srcT (HHd.out u1 F1)) (by unfold maxLen; omega) (by omega) (by have h9 := S5.out; omega)
                have F2 : Fr (fun _ => False) wr u2 := (F1).trans3 f7 fun k hk e => by have e2 : w0.heap.size = k := Option.some.inj e; omega
                have z7 := f7.size
                rw [Nat.zero_add, List.nil_append] at r7
                obtain ⟨A7, c7, rfl⟩ := row_slice r7
                have r7o : OwnT (w0.heap.size) u2 (.slice A7 ps.length c7) ps := r7
                refine wp_app_run _ _ _ _ rfl (v := .slice A7 ps.length c7) (W' := u2) (by exact hr7) ?_
                refine hK.out _ _ ?_ (fun hHeld => ?_)
                · exact F2
                clear hK K
                try simp only [Act.put, List.setIfInBounds_toArray, List.set_cons_zero, List.set_cons_succ]
                refine wpAnyZ_one (i := 12) (o := { dst := some 96, op := Go.Op.buildSlice 26 1 #[(0, Go.Operand.tmp 95)], type := 26, pos := "ref.go:103", after := #[{ on := 11, ground := Go.Ground.data }], guard := none }) (by kernel_rfl) rfl (by rfl) (fun K hK => ?_)
                go_simp
                obtain ⟨u3, hu3⟩ : ∃ W, u2.alloc (.cells #[.string (bs x)] 9) = W := ⟨_, rfl⟩
                rw [hu3]
                obtain ⟨p12, s12, q12⟩ := mkX u2 u3 x hu3
                have S12 := Lib.hid s12
                clear s12
                have F3 : Fr (fun _ => False) wr u3 := (F2).trans q12
                have r7b := ownT_fr r7o q12 fun _ _ e => e
                refine hK.out _ _ ?_ (fun hHeld => ?_)
                · exact F3
                clear hK K
                try simp only [Act.put, List.setIfInBounds_toArray, List.set_cons_zero, List.set_cons_succ]
                refine wpAnyZ_one (i := 13) (o := { dst := some 97, op := Go.Op.call { callee := Go.Callee.builtin Go.Builtin.append, args := #[Go.Operand.tmp 91, Go.Operand.tmp 96], argTypes := #[26, 26] }, type := 26, pos := "ref.go:103", after := #[{ on := 7, ground := Go.Ground.data }, { on := 12, ground := Go.Ground.data }, { on := 7, ground := Go.Ground.chain }], guard := none }) (by kernel_rfl) rfl (by rfl) (fun K hK => ?_)
                have hz7 := ownT_size (r7b) (by have h9 := S5.out; have h8 := S12.out; omega)
                obtain ⟨v13, u4, hr13, r13, f13, t13⟩ := run_app_any (P := Tryz.prog) u3 (w0.heap.size) 26 26 26 9 i0 _ 1 16 Tryz.underlying26 hi0 hz0 hz1 hz2 rfl (.slice A7 ps.length c7) ps.length (ps.map encT) r7b (.slice (some ⟨u2.heap.size, 0, none⟩) 1 1) 1 ([x].map encT) (srcT p12) (by unfold maxLen; omega) (by omega) (by omega)
                have F4 : Fr (fun _ => False) wr u4 := (F3).trans3 f13 fun k hk e => by have e2 := ((r7b).lt k e).1; omega
                obtain ⟨A13, c13, rfl⟩ := row_slice r13
                have HNu := Lib.hid (HNum.out u4 A13 c13 (reads_ownT (base := w0.heap.size) (n := ps.length + 1) (c := c13) (by unfold OwnT; rw [List.length_append, List.map_append]; exact r13)))
                refine wp_app_run _ _ _ _ rfl (v := .slice A13 (ps.length + 1) c13) (W' := u4) (by exact hr13) ?_
                refine hK.out _ _ ?_ (fun hHeld => ?_)
                · exact F4
                clear hK K
                try simp only [Act.put, List.setIfInBounds_toArray, List.set_cons_zero, List.set_cons_succ]
                refine wpAnyZ_one (i := 14) (o := { dst := some 98, op := Go.Op.call { callee := Go.Callee.value (Go.Operand.func 17), args := #[Go.Operand.tmp 86, Go.Operand.tmp 87, Go.Operand.tmp 88, Go.Operand.tmp 97], argTypes := #[9, 3, 9, 26] }, type := 9, pos := "ref.go:103", after := #[{ on := 2, ground := Go.Ground.data }, { on := 3, ground := Go.Ground.data }, { on := 4, ground := Go.Ground.data }, { on := 13, ground := Go.Ground.data }, { on := 13, ground := Go.Ground.chain }], guard := none }) (by kernel_rfl) rfl (by rfl) (fun K hK => ?_)
                go_simp
                refine (HNu.out).mono ?_
                rintro e9 u5 ⟨rfl, hb14⟩
                have F5 : Fr (fun _ => False) wr u5 := (F4).trans (Fr.of_below hb14)
                obtain ⟨y1, y2⟩ := HST.out u5 F5
                refine hK.out _ _ ?_ (fun hHeld => ?_)
                · exact F5
                clear hK K
                try simp only [Act.put, List.setIfInBounds_toArray, List.set_cons_zero, List.set_cons_succ]
                refine wpAnyZ_read (i := 15) (oi := { dst := some 99, op := Go.Op.indexAddr 26 (Go.Operand.tmp 84) (Go.Operand.tmp 85), type := 0, pos := "ref.go:103", after := #[{ on := 0, ground := Go.Ground.data }, { on := 1, ground := Go.Ground.data }, { on := 0, ground := Go.Ground.phase }, { on := 1, ground := Go.Ground.phase }, { on := 2, ground := Go.Ground.phase }, { on := 3, ground := Go.Ground.phase }, { on := 4, ground := Go.Ground.phase }, { on := 5, ground := Go.Ground.phase }, { on := 6, ground := Go.Ground.phase }, { on := 7, ground := Go.Ground.phase }, { on := 8, ground := Go.Ground.phase }, { on := 9, ground := Go.Ground.phase }, { on := 10, ground := Go.Ground.phase }, { on := 11, ground := Go.Ground.phase }, { on := 12, ground := Go.Ground.phase }, { on := 13, ground := Go.Ground.phase }, { on := 14, ground := Go.Ground.phase }], guard := none }) ?_ rfl (by kernel_rfl) (by kernel_rfl) (by kernel_rfl) (by kernel_rfl) (fun _ _ _ h => h) (by rfl) (by exact hHeld) ?_ ?_
                rotate_left
                · (intro w0 hS0; go_simp <;> (try with_reducible rfl))
                try simp only [Act.put, List.setIfInBounds_toArray, List.set_cons_zero, List.set_cons_succ]
                refine wpAnyZ_last (o := { dst := none, op := Go.Op.store 9 (Go.Operand.tmp 99) (Go.Operand.tmp 98), type := 0, pos := "ref.go:103", after := #[{ on := 15, ground := Go.Ground.data }, { on := 14, ground := Go.Ground.data }, { on := 14, ground := Go.Ground.chain }, { on := 0, ground := Go.Ground.phase }, { on := 1, ground := Go.Ground.phase }, { on := 2, ground := Go.Ground.phase }, { on := 3, ground := Go.Ground.phase }, { on := 4, ground := Go.Ground.phase }, { on := 5, ground := Go.Ground.phase }, { on := 6, ground := Go.Ground.phase }, { on := 7, ground := Go.Ground.phase }, { on := 8, ground := Go.Ground.phase }, { on := 9, ground := Go.Ground.phase }, { on := 10, ground := Go.Ground.phase }, { on := 11, ground := Go.Ground.phase }, { on := 12, ground := Go.Ground.phase }, { on := 13, ground := Go.Ground.phase }, { on := 14, ground := Go.Ground.phase }], guard := none }) (by kernel_rfl) rfl (by rfl) (fun K hK => ?_)
                go_simp
                refine hK.out _ _ ?_
                clear hK K
                try simp only [Act.put, List.setIfInBounds_toArray, List.set_cons_zero, List.set_cons_succ]
                refine wpAnyZ_done (by kernel_rfl) ?_ _
                have HE9 := Lib.hid (HEnd.out u5 F5)
                clear HHd HNum HST HEnd HCELL HCELL2
                go_wp2_with fail
                go_roundw
                case rel => exact ⟨k + 1, by go_num, by omega, HE9.out.1, HE9.out.2⟩
                case measure => simp [Go.RowKit.intOf]; omega
              · go_simp
                obtain ⟨u6, hu6⟩ : ∃ W, u1.alloc (.cells #[.string (bs x)] 9) = W := ⟨_, rfl⟩
                rw [hu6]
                obtain ⟨p12, s12, q12⟩ := mkX u1 u6 x hu6
                have S12 := Lib.hid s12
                clear s12
                have F6 : Fr (fun _ => False) wr u6 := (F1).trans q12
                have o5b := ownT_fr p5 q12 fun _ _ e => e
                refine hK.out _ _ ?_ (fun hHeld => ?_)
                · exact F6
                clear hK K
                try simp only [Act.put, List.setIfInBounds_toArray, List.set_cons_zero, List.set_cons_succ]
                refine wpAnyZ_one (i := 7) (o := { dst := some 91, op := Go.Op.call { callee := Go.Callee.builtin Go.Builtin.append, args := #[Go.Operand.tmp 89, Go.Operand.tmp 90], argTypes := #[26, 26] }, type := 26, pos := "ref.go:103", after := #[{ on := 5, ground := Go.Ground.data }, { on := 6, ground := Go.Ground.data }], guard := none }) (by kernel_rfl) rfl (by rfl) (fun K hK => ?_)
                obtain ⟨v7, u7, hr7, r7, f7, t7⟩ := run_app_any (P := Tryz.prog) u6 w0.heap.size 26 26 26 9 i0 _ 1 16 Tryz.underlying26 hi0 hz0 hz1 hz2 rfl (.slice (some ⟨w0.heap.size, 0, none⟩) 0 0) 0 [] o5b (.slice A ps.length c) ps.length (ps.map encT) (srcT (HHd.out u6 F6)) (by unfold maxLen; omega) (by omega) (by have h9 := S5.out; have h8 := S12.out; omega)
                have F7 : Fr (fun _ => False) wr u7 := (F6).trans3 f7 fun k hk e => by have e2 : w0.heap.size = k := Option.some.inj e; omega
                have z7 := f7.size
                rw [Nat.zero_add, List.nil_append] at r7
                obtain ⟨A7, c7, rfl⟩ := row_slice r7
                have r7o : OwnT (w0.heap.size) u7 (.slice A7 ps.length c7) ps := r7
                have x12c := readsT_frX p12 f7 fun e => by have e2 : w0.heap.size = u1.heap.size := Option.some.inj e; have h9 := S5.out; have h8 := S12.out; omega
                refine wp_app_run _ _ _ _ rfl (v := .slice A7 ps.length c7) (W' := u7) (by exact hr7) ?_
                refine hK.out _ _ ?_ (fun hHeld => ?_)
                · exact F7
                clear hK K
                try simp only [Act.put, List.setIfInBounds_toArray, List.set_cons_zero, List.set_cons_succ]
                refine wpAnyZ_one (i := 13) (o := { dst := some 97, op := Go.Op.call { callee := Go.Callee.builtin Go.Builtin.append, args := #[Go.Operand.tmp 91, Go.Operand.tmp 96], argTypes := #[26, 26] }, type := 26, pos := "ref.go:103", after := #[{ on := 7, ground := Go.Ground.data }, { on := 12, ground := Go.Ground.data }, { on := 7, ground := Go.Ground.chain }], guard := none }) (by kernel_rfl) rfl (by rfl) (fun K hK => ?_)
                have hz7 := ownT_size (r7o) (by have h9 := S5.out; have h8 := S12.out; omega)
                obtain ⟨v13, u8, hr13, r13, f13, t13⟩ := run_app_any (P := Tryz.prog) u7 (w0.heap.size) 26 26 26 9 i0 _ 1 16 Tryz.underlying26 hi0 hz0 hz1 hz2 rfl (.slice A7 ps.length c7) ps.length (ps.map encT) r7o (.slice (some ⟨u1.heap.size, 0, none⟩) 1 1) 1 ([x].map encT) (srcT x12c) (by unfold maxLen; omega) (by omega) (by omega)
                have F8 : Fr (fun _ => False) wr u8 := (F7).trans3 f13 fun k hk e => by have e2 := ((r7o).lt k e).1; omega
                obtain ⟨A13, c13, rfl⟩ := row_slice r13
                have HNu := Lib.hid (HNum.out u8 A13 c13 (reads_ownT (base := w0.heap.size) (n := ps.length + 1) (c := c13) (by unfold OwnT; rw [List.length_append, List.map_append]; exact r13)))
                refine wp_app_run _ _ _ _ rfl (v := .slice A13 (ps.length + 1) c13) (W' := u8) (by exact hr13) ?_
                refine hK.out _ _ ?_ (fun hHeld => ?_)
                · exact F8
                clear hK K
                try simp only [Act.put, List.setIfInBounds_toArray, List.set_cons_zero, List.set_cons_succ]
                refine wpAnyZ_one (i := 14) (o := { dst := some 98, op := Go.Op.call { callee := Go.Callee.value (Go.Operand.func 17), args := #[Go.Operand.tmp 86, Go.Operand.tmp 87, Go.Operand.tmp 88, Go.Operand.tmp 97], argTypes := #[9, 3, 9, 26] }, type := 9, pos := "ref.go:103", after := #[{ on := 2, ground := Go.Ground.data }, { on := 3, ground := Go.Ground.data }, { on := 4, ground := Go.Ground.data }, { on := 13, ground := Go.Ground.data }, { on := 13, ground := Go.Ground.chain }], guard := none }) (by kernel_rfl) rfl (by rfl) (fun K hK => ?_)
                go_simp
                refine (HNu.out).mono ?_
                rintro e9 u9 ⟨rfl, hb14⟩
                have F9 : Fr (fun _ => False) wr u9 := (F8).trans (Fr.of_below hb14)
                obtain ⟨y1, y2⟩ := HST.out u9 F9
                refine hK.out _ _ ?_ (fun hHeld => ?_)
                · exact F9
                clear hK K
                try simp only [Act.put, List.setIfInBounds_toArray, List.set_cons_zero, List.set_cons_succ]
                refine wpAnyZ_read (i := 15) (oi := { dst := some 99, op := Go.Op.indexAddr 26 (Go.Operand.tmp 84) (Go.Operand.tmp 85), type := 0, pos := "ref.go:103", after := #[{ on := 0, ground := Go.Ground.data }, { on := 1, ground := Go.Ground.data }, { on := 0, ground := Go.Ground.phase }, { on := 1, ground := Go.Ground.phase }, { on := 2, ground := Go.Ground.phase }, { on := 3, ground := Go.Ground.phase }, { on := 4, ground := Go.Ground.phase }, { on := 5, ground := Go.Ground.phase }, { on := 6, ground := Go.Ground.phase }, { on := 7, ground := Go.Ground.phase }, { on := 8, ground := Go.Ground.phase }, { on := 9, ground := Go.Ground.phase }, { on := 10, ground := Go.Ground.phase }, { on := 11, ground := Go.Ground.phase }, { on := 12, ground := Go.Ground.phase }, { on := 13, ground := Go.Ground.phase }, { on := 14, ground := Go.Ground.phase }], guard := none }) ?_ rfl (by kernel_rfl) (by kernel_rfl) (by kernel_rfl) (by kernel_rfl) (fun _ _ _ h => h) (by rfl) (by exact hHeld) ?_ ?_
                rotate_left
                · (intro w0 hS0; go_simp <;> (try with_reducible rfl))
                try simp only [Act.put, List.setIfInBounds_toArray, List.set_cons_zero, List.set_cons_succ]
                refine wpAnyZ_last (o := { dst := none, op := Go.Op.store 9 (Go.Operand.tmp 99) (Go.Operand.tmp 98), type := 0, pos := "ref.go:103", after := #[{ on := 15, ground := Go.Ground.data }, { on := 14, ground := Go.Ground.data }, { on := 14, ground := Go.Ground.chain }, { on := 0, ground := Go.Ground.phase }, { on := 1, ground := Go.Ground.phase }, { on := 2, ground := Go.Ground.phase }, { on := 3, ground := Go.Ground.phase }, { on := 4, ground := Go.Ground.phase }, { on := 5, ground := Go.Ground.phase }, { on := 6, ground := Go.Ground.phase }, { on := 7, ground := Go.Ground.phase }, { on := 8, ground := Go.Ground.phase }, { on := 9, ground := Go.Ground.phase }, { on := 10, ground := Go.Ground.phase }, { on := 11, ground := Go.Ground.phase }, { on := 12, ground := Go.Ground.phase }, { on := 13, ground := Go.Ground.phase }, { on := 14, ground := Go.Ground.phase }], guard := none }) (by kernel_rfl) rfl (by rfl) (fun K hK => ?_)
                go_simp
                refine hK.out _ _ ?_
                clear hK K
                try simp only [Act.put, List.setIfInBounds_toArray, List.set_cons_zero, List.set_cons_succ]
                refine wpAnyZ_done (by kernel_rfl) ?_ _
                have HE9 := Lib.hid (HEnd.out u9 F9)
                clear HHd HNum HST HEnd HCELL HCELL2
                go_wp2_with fail
                go_roundw
                case rel => exact ⟨k + 1, by go_num, by omega, HE9.out.1, HE9.out.2⟩
                case measure => simp [Go.RowKit.intOf]; omega
            · go_simp
              obtain ⟨u10, hu10⟩ : ∃ W, w0.alloc (.cells #[.string (bs x)] 9) = W := ⟨_, rfl⟩
              rw [hu10]
              obtain ⟨p12, s12, q12⟩ := mkX w0 u10 x hu10
              have S12 := Lib.hid s12
              clear s12
              have F10 : Fr (fun _ => False) wr u10 := (F0).trans q12
              refine hK.out _ _ ?_ (fun hHeld => ?_)
              · exact F10
              clear hK K
              try simp only [Act.put, List.setIfInBounds_toArray, List.set_cons_zero, List.set_cons_succ]
              refine wpAnyZ_one (i := 5) (o := { dst := some 89, op := Go.Op.buildSlice 26 0 #[], type := 26, pos := "ref.go:103", after := #[], guard := none }) (by kernel_rfl) rfl (by rfl) (fun K hK => ?_)
              go_simp
              obtain ⟨u11, hu11⟩ : ∃ W, u10.alloc (.cells #[] 9) = W := ⟨_, rfl⟩
              rw [hu11]
              obtain ⟨p5, s5, q5⟩ := mkE u10 u11 hu11
              have S5 := Lib.hid s5
              clear s5
              have F11 : Fr (fun _ => False) wr u11 := (F10).trans q5
              have z5 : wr.heap.size ≤ u10.heap.size := (F10).size
              have x12b := readsT_frX p12 q5 fun e => e
              refine hK.out _ _ ?_ (fun hHeld => ?_)
              · exact F11
              clear hK K
              try simp only [Act.put, List.setIfInBounds_toArray, List.set_cons_zero, List.set_cons_succ]
              refine wpAnyZ_one (i := 7) (o := { dst := some 91, op := Go.Op.call { callee := Go.Callee.builtin Go.Builtin.append, args := #[Go.Operand.tmp 89, Go.Operand.tmp 90], argTypes := #[26, 26] }, type := 26, pos := "ref.go:103", after := #[{ on := 5, ground := Go.Ground.data }, { on := 6, ground := Go.Ground.data }], guard := none }) (by kernel_rfl) rfl (by rfl) (fun K hK => ?_)
              obtain ⟨v7, u12, hr7, r7, f7, t7⟩ := run_app_any (P := Tryz.prog) u11 u10.heap.size 26 26 26 9 i0 _ 1 16 Tryz.underlying26 hi0 hz0 hz1 hz2 rfl (.slice (some ⟨u10.heap.size, 0, none⟩) 0 0) 0 [] p5 (.slice A ps.length c) ps.length (ps.map encT) (srcT (HHd.out u11 F11)) (by unfold maxLen; omega) (by omega) (by have h9 := S5.out; have h8 := S12.out; omega)
              have F12 : Fr (fun _ => False) wr u12 := (F11).trans3 f7 fun k hk e => by have e2 : u10.heap.size = k := Option.some.inj e; omega
              have z7 := f7.size
              rw [Nat.zero_add, List.nil_append] at r7
              obtain ⟨A7, c7, rfl⟩ := row_slice r7
              have r7o : OwnT (u10.heap.size) u12 (.slice A7 ps.length c7) ps := r7
              have x12c := readsT_frX x12b f7 fun e => by have e2 : u10.heap.size = w0.heap.size := Option.some.inj e; have h9 := S5.out; have h8 := S12.out; omega
              refine wp_app_run _ _ _ _ rfl (v := .slice A7 ps.length c7) (W' := u12) (by exact hr7) ?_
              refine hK.out _ _ ?_ (fun hHeld => ?_)
              · exact F12
              clear hK K
              try simp only [Act.put, List.setIfInBounds_toArray, List.set_cons_zero, List.set_cons_succ]
              refine wpAnyZ_one (i := 13) (o := { dst := some 97, op := Go.Op.call { callee := Go.Callee.builtin Go.Builtin.append, args := #[Go.Operand.tmp 91, Go.Operand.tmp 96], argTypes := #[26, 26] }, type := 26, pos := "ref.go:103", after := #[{ on := 7, ground := Go.Ground.data }, { on := 12, ground := Go.Ground.data }, { on := 7, ground := Go.Ground.chain }], guard := none }) (by kernel_rfl) rfl (by rfl) (fun K hK => ?_)
              have hz7 := ownT_size (r7o) (by have h9 := S5.out; have h8 := S12.out; omega)
              obtain ⟨v13, u13, hr13, r13, f13, t13⟩ := run_app_any (P := Tryz.prog) u12 (u10.heap.size) 26 26 26 9 i0 _ 1 16 Tryz.underlying26 hi0 hz0 hz1 hz2 rfl (.slice A7 ps.length c7) ps.length (ps.map encT) r7o (.slice (some ⟨w0.heap.size, 0, none⟩) 1 1) 1 ([x].map encT) (srcT x12c) (by unfold maxLen; omega) (by omega) (by omega)
              have F13 : Fr (fun _ => False) wr u13 := (F12).trans3 f13 fun k hk e => by have e2 := ((r7o).lt k e).1; omega
              obtain ⟨A13, c13, rfl⟩ := row_slice r13
              have HNu := Lib.hid (HNum.out u13 A13 c13 (reads_ownT (base := u10.heap.size) (n := ps.length + 1) (c := c13) (by unfold OwnT; rw [List.length_append, List.map_append]; exact r13)))
              refine wp_app_run _ _ _ _ rfl (v := .slice A13 (ps.length + 1) c13) (W' := u13) (by exact hr13) ?_
              refine hK.out _ _ ?_ (fun hHeld => ?_)
              · exact F13
              clear hK K
              try simp only [Act.put, List.setIfInBounds_toArray, List.set_cons_zero, List.set_cons_succ]
              refine wpAnyZ_one (i := 14) (o := { dst := some 98, op := Go.Op.call { callee := Go.Callee.value (Go.Operand.func 17), args := #[Go.Operand.tmp 86, Go.Operand.tmp 87, Go.Operand.tmp 88, Go.Operand.tmp 97], argTypes := #[9, 3, 9, 26] }, type := 9, pos := "ref.go:103", after := #[{ on := 2, ground := Go.Ground.data }, { on := 3, ground := Go.Ground.data }, { on := 4, ground := Go.Ground.data }, { on := 13, ground := Go.Ground.data }, { on := 13, ground := Go.Ground.chain }], guard := none }) (by kernel_rfl) rfl (by rfl) (fun K hK => ?_)
              go_simp
              refine (HNu.out).mono ?_
              rintro e9 u14 ⟨rfl, hb14⟩
              have F14 : Fr (fun _ => False) wr u14 := (F13).trans (Fr.of_below hb14)
              obtain ⟨y1, y2⟩ := HST.out u14 F14
              refine hK.out _ _ ?_ (fun hHeld => ?_)
              · exact F14
              clear hK K
              try simp only [Act.put, List.setIfInBounds_toArray, List.set_cons_zero, List.set_cons_succ]
              refine wpAnyZ_read (i := 15) (oi := { dst := some 99, op := Go.Op.indexAddr 26 (Go.Operand.tmp 84) (Go.Operand.tmp 85), type := 0, pos := "ref.go:103", after := #[{ on := 0, ground := Go.Ground.data }, { on := 1, ground := Go.Ground.data }, { on := 0, ground := Go.Ground.phase }, { on := 1, ground := Go.Ground.phase }, { on := 2, ground := Go.Ground.phase }, { on := 3, ground := Go.Ground.phase }, { on := 4, ground := Go.Ground.phase }, { on := 5, ground := Go.Ground.phase }, { on := 6, ground := Go.Ground.phase }, { on := 7, ground := Go.Ground.phase }, { on := 8, ground := Go.Ground.phase }, { on := 9, ground := Go.Ground.phase }, { on := 10, ground := Go.Ground.phase }, { on := 11, ground := Go.Ground.phase }, { on := 12, ground := Go.Ground.phase }, { on := 13, ground := Go.Ground.phase }, { on := 14, ground := Go.Ground.phase }], guard := none }) ?_ rfl (by kernel_rfl) (by kernel_rfl) (by kernel_rfl) (by kernel_rfl) (fun _ _ _ h => h) (by rfl) (by exact hHeld) ?_ ?_
              rotate_left
              · (intro w0 hS0; go_simp <;> (try with_reducible rfl))
              try simp only [Act.put, List.setIfInBounds_toArray, List.set_cons_zero, List.set_cons_succ]
              refine wpAnyZ_last (o := { dst := none, op := Go.Op.store 9 (Go.Operand.tmp 99) (Go.Operand.tmp 98), type := 0, pos := "ref.go:103", after := #[{ on := 15, ground := Go.Ground.data }, { on := 14, ground := Go.Ground.data }, { on := 14, ground := Go.Ground.chain }, { on := 0, ground := Go.Ground.phase }, { on := 1, ground := Go.Ground.phase }, { on := 2, ground := Go.Ground.phase }, { on := 3, ground := Go.Ground.phase }, { on := 4, ground := Go.Ground.phase }, { on := 5, ground := Go.Ground.phase }, { on := 6, ground := Go.Ground.phase }, { on := 7, ground := Go.Ground.phase }, { on := 8, ground := Go.Ground.phase }, { on := 9, ground := Go.Ground.phase }, { on := 10, ground := Go.Ground.phase }, { on := 11, ground := Go.Ground.phase }, { on := 12, ground := Go.Ground.phase }, { on := 13, ground := Go.Ground.phase }, { on := 14, ground := Go.Ground.phase }], guard := none }) (by kernel_rfl) rfl (by rfl) (fun K hK => ?_)
              go_simp
              refine hK.out _ _ ?_
              clear hK K
              try simp only [Act.put, List.setIfInBounds_toArray, List.set_cons_zero, List.set_cons_succ]
              refine wpAnyZ_done (by kernel_rfl) ?_ _
              have HE9 := Lib.hid (HEnd.out u14 F14)
              clear HHd HNum HST HEnd HCELL HCELL2
              go_wp2_with fail
              go_roundw
              case rel => exact ⟨k + 1, by go_num, by omega, HE9.out.1, HE9.out.2⟩
              case measure => simp [Go.RowKit.intOf]; omega
          · obtain rfl : k = R.length := by omega
            have hfin : (R.take R.length).map f ++ R.drop R.length = R.map f := by rw [List.take_length, List.drop_length, List.append_nil]
            rw [hfin] at hown
            have HFin := Lib.hid (And.intro hown hB)
            clear hown hB hfin
            go_wp2_with fail
            go_ret
            have hl2 : (packL server whom n ps ws).length = R.length := by rw [HPk.out, List.length_map]
            refine ⟨some ⟨g, 0, none⟩, cv, ?_, ?_, HFin.out.2⟩
            · rw [hl2]; rfl
            · rw [HPk.out]
              have h3 := HFin.out.1
              exact reads_ownT h3
      | cons a0 ar =>
        have hRD : rowsD (rs, a0 :: ar) = rs ++ [a0 :: ar] := if_neg (by simp)
        rw [hRD] at hown
        obtain ⟨R, hR⟩ : ∃ R : List (List UInt8), rs ++ [a0 :: ar] = R := ⟨_, rfl⟩
        rw [hR] at hown HPKr
        have HPk := Lib.hid HPKr
        have HRl : Hid (∀ r ∈ R, r.length ≤ 510) := Lib.hid fun r hr => by
          rw [← hR] at hr
          rcases List.mem_append.1 hr with h | h
          · exact hrs r h
          · rw [List.mem_singleton.1 h]; exact hla
        obtain ⟨A3, cv, hv3⟩ := row_slice hown
        subst hv3
        have hR1 : 1 ≤ R.length := by rw [← hR]; simp
        have hRb : R.length ≤ 2000 := by rw [← hR]; simp; omega
        have hne : ((R.length : Int) == 0) = false := by rw [beq_eq_false_iff_ne]; omega
        obtain ⟨g, rfl⟩ : ∃ g, A3 = some ⟨g, 0, none⟩ := by
          rcases hown.2 with ⟨hv, h9⟩ | ⟨g', _, _, hv, _⟩
          · omega
          · injection hv with q1; exact ⟨g', q1⟩
        have HPre := Lib.hid (And.intro hown hB)
        clear hown hB HPKr hrs hla hPl2 hR hRD hbz hR1
        go_wp2_with fail
        have HOL := HPre.out
        clear HPre
        have HOl := Lib.hid HOL
        clear HOL
        go_loopw [15] (fun i wr => ∃ k : Nat, i = .int .i64 k ∧ k ≤ R.length ∧ OwnT w.heap.size wr (.slice (some ⟨g, 0, none⟩) R.length cv) ((R.take k).map f ++ R.drop k) ∧ Below w.heap.size w wr) (fun i _ => R.length - (Go.RowKit.intOf i).toNat)
        case atStart => exact ⟨0, rfl, Nat.zero_le _, by simpa using HOl.out.1, HOl.out.2⟩
        case round =>
          obtain ⟨k, rfl, hk, hown, hB⟩ := hrel
          by_cases hlt : k < R.length
          · have hcl : ((R.take k).map f ++ R.drop k).length = R.length := by rw [List.length_append, List.length_map, List.length_take, List.length_drop]; omega
            have hck := ownT_at hown hcl k hlt
            have hgk : ((R.take k).map f ++ R.drop k)[k]'(by rw [hcl]; exact hlt) = R[k] := by
              rw [List.getElem_append_right (by rw [List.length_map, List.length_take]; omega)]
              simp only [List.length_map, List.length_take, List.getElem_drop]
              congr 1
              omega
            rw [hgk] at hck
            have hset := ownT_set hown hcl k hlt
            have hstep := step_set f R k hlt
            have hxl := HRl.out R[k] (List.getElem_mem hlt)
            have HNum0 := Lib.hid (HNum2.out R[k] hxl)
            obtain ⟨x, hx⟩ : ∃ x, R[k]'hlt = x := ⟨_, rfl⟩
            rw [hx] at hck hstep HNum0
            have hgw : g < wr.heap.size := World.block_lt_of_cell? _ _ hck.1
            have HCELL : Hid (∀ W, Fr (fun _ => False) wr W → W.cell? ⟨g, 0 + k, none⟩ = some (.string (bs x))) := Lib.hid fun W hf => (hf.cell (p := ⟨g, 0 + k, none⟩) hgw (fun h => h)).trans (by rw [Nat.zero_add]; exact hck.1)
            have HCELL2 : Hid (∀ W, Fr (fun _ => False) wr W → W.cell? ⟨g, k, none⟩ = some (.string (bs x))) := Lib.hid fun W hf => (hf.cell (p := ⟨g, k, none⟩) hgw (fun h => h)).trans hck.1
            have HST : Hid (∀ W, Fr (fun _ => False) wr W → W.cell? ⟨g, k, none⟩ = some (.string (bs x)) ∧ W.frozen? ⟨g, k, none⟩ = false) := Lib.hid fun W hf => ⟨HCELL2.out W hf, (fr_frozen hf hgw).trans hck.2⟩
            have HHd : Hid (∀ W, Fr (fun _ => False) wr W → ReadsT W A ps) := Lib.hid fun W hf => readsT_fr0 (readsT_below HR.out hB (Nat.le_refl _)) hf
            have HEnd : Hid (∀ W, Fr (fun _ => False) wr W → OwnT w.heap.size (W.setCell ⟨g, k, none⟩ (.string (bs (f x)))) (.slice (some ⟨g, 0, none⟩) R.length cv) ((R.take (k + 1)).map f ++ R.drop (k + 1)) ∧ Below w.heap.size w (W.setCell ⟨g, k, none⟩ (.string (bs (f x))))) := Lib.hid fun W hf => by
              have h1 := ownT_set (ownT_fr hown hf fun _ _ e => e) hcl k hlt (f x)
              rw [hstep] at h1
              refine ⟨h1, (hB.trans ((fr_below_no hf).mono hB.size)).setCell ?_ _⟩
              exact (hown.lt g rfl).1
            have HNum : Hid (∀ W A13 c13, ReadsT W A13 (ps ++ [x]) → Calls Tryz.prog 17 #[.string (bs server), .int .i64 n, .string (bs whom), .slice A13 (ps.length + 1) c13] W fun e w' => e = .returned (.string (bs (f x))) ∧ Below W.heap.size W w') := HNum0
            have hz0k : (0 : Nat) + k = k := Nat.zero_add k
            clear hown hB hck hset hstep hxl hx hgw hcl hgk HNum0
            go_wp2_with fail
            refine wp_region_z (S := fun W => Fr (fun _ => False) wr W) (z := 16) (by kernel_rfl) (by exact (Fr.refl _ wr).drew) (fun hHeld => ?_)
            obtain ⟨w0, hw0⟩ : ∃ W, wr.drew = W := ⟨_, rfl⟩
            rw [hw0] at hHeld ⊢
            clear hw0
            have F0 : Fr (fun _ => False) wr w0 := hHeld
            refine wpAnyZ_read (i := 0) (oi := { dst := some 84, op := Go.Op.move (Go.Operand.tmp 11), type := 26, pos := "ref.go:103", after := #[], guard := none }) ?_ rfl (by kernel_rfl) (by kernel_rfl) (by kernel_rfl) (by kernel_rfl) (fun _ _ _ h => h) (by rfl) (by exact hHeld) ?_ ?_
            rotate_left
            · (intro w0 hS0; go_simp <;> (try with_reducible rfl))
            try simp only [Act.put, List.setIfInBounds_toArray, List.set_cons_zero, List.set_cons_succ]
            refine wpAnyZ_read (i := 1) (oi := { dst := some 85, op := Go.Op.move (Go.Operand.tmp 15), type := 3, pos := "ref.go:103", after := #[], guard := none }) ?_ rfl (by kernel_rfl) (by kernel_rfl) (by kernel_rfl) (by kernel_rfl) (fun _ _ _ h => h) (by rfl) (by exact hHeld) ?_ ?_
            rotate_left
            · (intro w0 hS0; go_simp <;> (try with_reducible rfl))
            try simp only [Act.put, List.setIfInBounds_toArray, List.set_cons_zero, List.set_cons_succ]
            refine wpAnyZ_read (i := 2) (oi := { dst := some 86, op := Go.Op.move (Go.Operand.tmp 0), type := 9, pos := "ref.go:103", after := #[], guard := none }) ?_ rfl (by kernel_rfl) (by kernel_rfl) (by kernel_rfl) (by kernel_rfl) (fun _ _ _ h => h) (by rfl) (by exact hHeld) ?_ ?_
            rotate_left
            · (intro w0 hS0; go_simp <;> (try with_reducible rfl))
            try simp only [Act.put, List.setIfInBounds_toArray, List.set_cons_zero, List.set_cons_succ]
            refine wpAnyZ_read (i := 3) (oi := { dst := some 87, op := Go.Op.move (Go.Operand.tmp 1), type := 3, pos := "ref.go:103", after := #[], guard := none }) ?_ rfl (by kernel_rfl) (by kernel_rfl) (by kernel_rfl) (by kernel_rfl) (fun _ _ _ h => h) (by rfl) (by exact hHeld) ?_ ?_
            rotate_left
            · (intro w0 hS0; go_simp <;> (try with_reducible rfl))
            try simp only [Act.put, List.setIfInBounds_toArray, List.set_cons_zero, List.set_cons_succ]
            refine wpAnyZ_read (i := 4) (oi := { dst := some 88, op := Go.Op.move (Go.Operand.tmp 2), type := 9, pos := "ref.go:103", after := #[], guard := none }) ?_ rfl (by kernel_rfl) (by kernel_rfl) (by kernel_rfl) (by kernel_rfl) (fun _ _ _ h => h) (by rfl) (by exact hHeld) ?_ ?_
            rotate_left
            · (intro w0 hS0; go_simp <;> (try with_reducible rfl))
            try simp only [Act.put, List.setIfInBounds_toArray, List.set_cons_zero, List.set_cons_succ]
            refine wpAnyZ_read (i := 6) (oi := { dst := some 90, op := Go.Op.move (Go.Operand.tmp 3), type := 26, pos := "ref.go:103", after := #[], guard := none }) ?_ rfl (by kernel_rfl) (by kernel_rfl) (by kernel_rfl) (by kernel_rfl) (fun _ _ _ h => h) (by rfl) (by exact hHeld) ?_ ?_
            rotate_left
            · (intro w0 hS0; go_simp <;> (try with_reducible rfl))
            try simp only [Act.put, List.setIfInBounds_toArray, List.set_cons_zero, List.set_cons_succ]
            refine wpAnyZ_read (i := 8) (oi := { dst := some 92, op := Go.Op.move (Go.Operand.tmp 11), type := 26, pos := "ref.go:103", after := #[], guard := none }) ?_ rfl (by kernel_rfl) (by kernel_rfl) (by kernel_rfl) (by kernel_rfl) (fun _ _ _ h => h) (by rfl) (by exact hHeld) ?_ ?_
            rotate_left
            · (intro w0 hS0; go_simp <;> (try with_reducible rfl))
            try simp only [Act.put, List.setIfInBounds_toArray, List.set_cons_zero, List.set_cons_succ]
            refine wpAnyZ_read (i := 9) (oi := { dst := some 93, op := Go.Op.move (Go.Operand.tmp 15), type := 3, pos := "ref.go:103", after := #[], guard := none }) ?_ rfl (by kernel_rfl) (by kernel_rfl) (by kernel_rfl) (by kernel_rfl) (fun _ _ _ h => h) (by rfl) (by exact hHeld) ?_ ?_
            rotate_left
            · (intro w0 hS0; go_simp <;> (try with_reducible rfl))
            try simp only [Act.put, List.setIfInBounds_toArray, List.set_cons_zero, List.set_cons_succ]
            refine wpAnyZ_read (i := 10) (oi := { dst := some 94, op := Go.Op.indexAddr 26 (Go.Operand.tmp 92) (Go.Operand.tmp 93), type := 0, pos := "ref.go:103", after := #[{ on := 8, ground := Go.Ground.data }, { on := 9, ground := Go.Ground.data }], guard := none }) ?_ rfl (by kernel_rfl) (by kernel_rfl) (by kernel_rfl) (by kernel_rfl) (fun _ _ _ h => h) (by rfl) (by exact hHeld) ?_ ?_
            rotate_left
            · (intro w0 hS0; go_simp <;> (try with_reducible rfl))
            try simp only [Act.put, List.setIfInBounds_toArray, List.set_cons_zero, List.set_cons_succ]
            refine wpAnyZ_read (i := 11) (oi := { dst := some 95, op := Go.Op.load 9 (Go.Operand.tmp 94), type := 9, pos := "ref.go:103", after := #[{ on := 10, ground := Go.Ground.data }], guard := none }) ?_ rfl (by kernel_rfl) (by kernel_rfl) (by kernel_rfl) (by kernel_rfl) (fun _ _ _ h => h) (by rfl) (by exact hHeld) ?_ ?_
            rotate_left
            · (intro w0 hS0; have s0 := HCELL2.out w0 hS0; go_simp <;> (try with_reducible rfl))
            try simp only [Act.put, List.setIfInBounds_toArray, List.set_cons_zero, List.set_cons_succ]
            refine wpAnyZ_two (i := 5) (j := 12) (o := { dst := some 89, op := Go.Op.buildSlice 26 0 #[], type := 26, pos := "ref.go:103", after := #[], guard := none }) (o2 := { dst := some 96, op := Go.Op.buildSlice 26 1 #[(0, Go.Operand.tmp 95)], type := 26, pos := "ref.go:103", after := #[{ on := 11, ground := Go.Ground.data }], guard := none }) (by kernel_rfl) rfl rfl (by rfl) (by rfl) (fun K hK => ?_) (fun K hK => ?_)
            · go_simp
              obtain ⟨u1, hu1⟩ : ∃ W, w0.alloc (.cells #[] 9) = W := ⟨_, rfl⟩
              rw [hu1]
              obtain ⟨p5, s5, q5⟩ := mkE w0 u1 hu1
              have S5 := Lib.hid s5
              clear s5
              have F1 : Fr (fun _ => False) wr u1 := (F0).trans q5
              have z5 : wr.heap.size ≤ w0.heap.size := (F0).size
              refine hK.out _ _ ?_ (fun hHeld => ?_)
              · exact F1
              clear hK K
              try simp only [Act.put, List.setIfInBounds_toArray, List.set_cons_zero, List.set_cons_succ]
              refine wpAnyZ_two (i := 7) (j := 12) (o := { dst := some 91, op := Go.Op.call { callee := Go.Callee.builtin Go.Builtin.append, args := #[Go.Operand.tmp 89, Go.Operand.tmp 90], argTypes := #[26, 26] }, type := 26, pos := "ref.go:103", after := #[{ on := 5, ground := Go.Ground.data }, { on := 6, ground := Go.Ground.data }], guard := none }) (o2 := { dst := some 96, op := Go.Op.buildSlice 26 1 #[(0, Go.Operand.tmp 95)], type := 26, pos := "ref.go:103", after := #[{ on := 11, ground := Go.Ground.data }], guard := none }) (by kernel_rfl) rfl rfl (by rfl) (by rfl) (fun K hK => ?_) (fun K hK => ?_)
              · obtain ⟨v7, u2, hr7, r7, f7, t7⟩ := run_app_any (P := Tryz.prog) u1 w0.heap.size 26 26 26 9 i0 _ 1 16 Tryz.underlying26 hi0 hz0 hz1 hz2 rfl (.slice (some ⟨w0.heap.size, 0, none⟩) 0 0) 0 [] p5 (.slice A ps.length c) ps.length (ps.map encT) (srcT (HHd.out u1 F1)) (by unfold maxLen; omega) (by omega) (by have h9 := S5.out; omega)
                have F2 : Fr (fun _ => False) wr u2 := (F1).trans3 f7 fun k hk e => by have e2 : w0.heap.size = k := Option.some.inj e; omega
                have z7 := f7.size
                rw [Nat.zero_add, List.nil_append] at r7
                obtain ⟨A7, c7, rfl⟩ := row_slice r7
                have r7o : OwnT (w0.heap.size) u2 (.slice A7 ps.length c7) ps := r7
                refine wp_app_run _ _ _ _ rfl (v := .slice A7 ps.length c7) (W' := u2) (by exact hr7) ?_
                refine hK.out _ _ ?_ (fun hHeld => ?_)
                · exact F2
                clear hK K
                try simp only [Act.put, List.setIfInBounds_toArray, List.set_cons_zero, List.set_cons_succ]
                refine wpAnyZ_one (i := 12) (o := { dst := some 96, op := Go.Op.buildSlice 26 1 #[(0, Go.Operand.tmp 95)], type := 26, pos := "ref.go:103", after := #[{ on := 11, ground := Go.Ground.data }], guard := none }) (by kernel_rfl) rfl (by rfl) (fun K hK => ?_)
                go_simp
                obtain ⟨u3, hu3⟩ : ∃ W, u2.alloc (.cells #[.string (bs x)] 9) = W := ⟨_, rfl⟩
                rw [hu3]
                obtain ⟨p12, s12, q12⟩ := mkX u2 u3 x hu3
                have S12 := Lib.hid s12
                clear s12
                have F3 : Fr (fun _ => False) wr u3 := (F2).trans q12
                have r7b := ownT_fr r7o q12 fun _ _ e => e
                refine hK.out _ _ ?_ (fun hHeld => ?_)
                · exact F3
                clear hK K
                try simp only [Act.put, List.setIfInBounds_toArray, List.set_cons_zero, List.set_cons_succ]
                refine wpAnyZ_one (i := 13) (o := { dst := some 97, op := Go.Op.call { callee := Go.Callee.builtin Go.Builtin.append, args := #[Go.Operand.tmp 91, Go.Operand.tmp 96], argTypes := #[26, 26] }, type := 26, pos := "ref.go:103", after := #[{ on := 7, ground := Go.Ground.data }, { on := 12, ground := Go.Ground.data }, { on := 7, ground := Go.Ground.chain }], guard := none }) (by kernel_rfl) rfl (by rfl) (fun K hK => ?_)
                have hz7 := ownT_size (r7b) (by have h9 := S5.out; have h8 := S12.out; omega)
                obtain ⟨v13, u4, hr13, r13, f13, t13⟩ := run_app_any (P := Tryz.prog) u3 (w0.heap.size) 26 26 26 9 i0 _ 1 16 Tryz.underlying26 hi0 hz0 hz1 hz2 rfl (.slice A7 ps.length c7) ps.length (ps.map encT) r7b (.slice (some ⟨u2.heap.size, 0, none⟩) 1 1) 1 ([x].map encT) (srcT p12) (by unfold maxLen; omega) (by omega) (by omega)
                have F4 : Fr (fun _ => False) wr u4 := (F3).trans3 f13 fun k hk e => by have e2 := ((r7b).lt k e).1; omega
                obtain ⟨A13, c13, rfl⟩ := row_slice r13
                have HNu := Lib.hid (HNum.out u4 A13 c13 (reads_ownT (base := w0.heap.size) (n := ps.length + 1) (c := c13) (by unfold OwnT; rw [List.length_append, List.map_append]; exact r13)))
                refine wp_app_run _ _ _ _ rfl (v := .slice A13 (ps.length + 1) c13) (W' := u4) (by exact hr13) ?_
                refine hK.out _ _ ?_ (fun hHeld => ?_)
                · exact F4
                clear hK K
                try simp only [Act.put, List.setIfInBounds_toArray, List.set_cons_zero, List.set_cons_succ]
                refine wpAnyZ_one (i := 14) (o := { dst := some 98, op := Go.Op.call { callee := Go.Callee.value (Go.Operand.func 17), args := #[Go.Operand.tmp 86, Go.Operand.tmp 87, Go.Operand.tmp 88, Go.Operand.tmp 97], argTypes := #[9, 3, 9, 26] }, type := 9, pos := "ref.go:103", after := #[{ on := 2, ground := Go.Ground.data }, { on := 3, ground := Go.Ground.data }, { on := 4, ground := Go.Ground.data }, { on := 13, ground := Go.Ground.data }, { on := 13, ground := Go.Ground.chain }], guard := none }) (by kernel_rfl) rfl (by rfl) (fun K hK => ?_)
                go_simp
                refine (HNu.out).mono ?_
                rintro e9 u5 ⟨rfl, hb14⟩
                have F5 : Fr (fun _ => False) wr u5 := (F4).trans (Fr.of_below hb14)
                obtain ⟨y1, y2⟩ := HST.out u5 F5
                refine hK.out _ _ ?_ (fun hHeld => ?_)
                · exact F5
                clear hK K
                try simp only [Act.put, List.setIfInBounds_toArray, List.set_cons_zero, List.set_cons_succ]
                refine wpAnyZ_read (i := 15) (oi := { dst := some 99, op := Go.Op.indexAddr 26 (Go.Operand.tmp 84) (Go.Operand.tmp 85), type := 0, pos := "ref.go:103", after := #[{ on := 0, ground := Go.Ground.data }, { on := 1, ground := Go.Ground.data }, { on := 0, ground := Go.Ground.phase }, { on := 1, ground := Go.Ground.phase }, { on := 2, ground := Go.Ground.phase }, { on := 3, ground := Go.Ground.phase }, { on := 4, ground := Go.Ground.phase }, { on := 5, ground := Go.Ground.phase }, { on := 6, ground := Go.Ground.phase }, { on := 7, ground := Go.Ground.phase }, { on := 8, ground := Go.Ground.phase }, { on := 9, ground := Go.Ground.phase }, { on := 10, ground := Go.Ground.phase }, { on := 11, ground := Go.Ground.phase }, { on := 12, ground := Go.Ground.phase }, { on := 13, ground := Go.Ground.phase }, { on := 14, ground := Go.Ground.phase }], guard := none }) ?_ rfl (by kernel_rfl) (by kernel_rfl) (by kernel_rfl) (by kernel_rfl) (fun _ _ _ h => h) (by rfl) (by exact hHeld) ?_ ?_
                rotate_left
                · (intro w0 hS0; go_simp <;> (try with_reducible rfl))
                try simp only [Act.put, List.setIfInBounds_toArray, List.set_cons_zero, List.set_cons_succ]
                refine wpAnyZ_last (o := { dst := none, op := Go.Op.store 9 (Go.Operand.tmp 99) (Go.Operand.tmp 98), type := 0, pos := "ref.go:103", after := #[{ on := 15, ground := Go.Ground.data }, { on := 14, ground := Go.Ground.data }, { on := 14, ground := Go.Ground.chain }, { on := 0, ground := Go.Ground.phase }, { on := 1, ground := Go.Ground.phase }, { on := 2, ground := Go.Ground.phase }, { on := 3, ground := Go.Ground.phase }, { on := 4, ground := Go.Ground.phase }, { on := 5, ground := Go.Ground.phase }, { on := 6, ground := Go.Ground.phase }, { on := 7, ground := Go.Ground.phase }, { on := 8, ground := Go.Ground.phase }, { on := 9, ground := Go.Ground.phase }, { on := 10, ground := Go.Ground.phase }, { on := 11, ground := Go.Ground.phase }, { on := 12, ground := Go.Ground.phase }, { on := 13, ground := Go.Ground.phase }, { on := 14, ground := Go.Ground.phase }], guard := none }) (by kernel_rfl) rfl (by rfl) (fun K hK => ?_)
                go_simp
                refine hK.out _ _ ?_
                clear hK K
                try simp only [Act.put, List.setIfInBounds_toArray, List.set_cons_zero, List.set_cons_succ]
                refine wpAnyZ_done (by kernel_rfl) ?_ _
                have HE9 := Lib.hid (HEnd.out u5 F5)
                clear HHd HNum HST HEnd HCELL HCELL2
                go_wp2_with fail
                go_roundw
                case rel => exact ⟨k + 1, by go_num, by omega, HE9.out.1, HE9.out.2⟩
                case measure => simp [Go.RowKit.intOf]; omega
              · go_simp
                obtain ⟨u6, hu6⟩ : ∃ W, u1.alloc (.cells #[.string (bs x)] 9) = W := ⟨_, rfl⟩
                rw [hu6]
                obtain ⟨p12, s12, q12⟩ := mkX u1 u6 x hu6
                have S12 := Lib.hid s12
                clear s12
                have F6 : Fr (fun _ => False) wr u6 := (F1).trans q12
                have o5b := ownT_fr p5 q12 fun _ _ e => e
                refine hK.out _ _ ?_ (fun hHeld => ?_)
                · exact F6
                clear hK K
                try simp only [Act.put, List.setIfInBounds_toArray, List.set_cons_zero, List.set_cons_succ]
                refine wpAnyZ_one (i := 7) (o := { dst := some 91, op := Go.Op.call { callee := Go.Callee.builtin Go.Builtin.append, args := #[Go.Operand.tmp 89, Go.Operand.tmp 90], argTypes := #[26, 26] }, type := 26, pos := "ref.go:103", after := #[{ on := 5, ground := Go.Ground.data }, { on := 6, ground := Go.Ground.data }], guard := none }) (by kernel_rfl) rfl (by rfl) (fun K hK => ?_)
                obtain ⟨v7, u7, hr7, r7, f7, t7⟩ := run_app_any (P := Tryz.prog) u6 w0.heap.size 26 26 26 9 i0 _ 1 16 Tryz.underlying26 hi0 hz0 hz1 hz2 rfl (.slice (some ⟨w0.heap.size, 0, none⟩) 0 0) 0 [] o5b (.slice A ps.length c) ps.length (ps.map encT) (srcT (HHd.out u6 F6)) (by unfold maxLen; omega) (by omega) (by have h9 := S5.out; have h8 := S12.out; omega)
                have F7 : Fr (fun _ => False) wr u7 := (F6).trans3 f7 fun k hk e => by have e2 : w0.heap.size = k := Option.some.inj e; omega
                have z7 := f7.size
                rw [Nat.zero_add, List.nil_append] at r7
                obtain ⟨A7, c7, rfl⟩ := row_slice r7
                have r7o : OwnT (w0.heap.size) u7 (.slice A7 ps.length c7) ps := r7
                have x12c := readsT_frX p12 f7 fun e => by have e2 : w0.heap.size = u1.heap.size := Option.some.inj e; have h9 := S5.out; have h8 := S12.out; omega
                refine wp_app_run _ _ _ _ rfl (v := .slice A7 ps.length c7) (W' := u7) (by exact hr7) ?_
                refine hK.out _ _ ?_ (fun hHeld => ?_)
                · exact F7
                clear hK K
                try simp only [Act.put, List.setIfInBounds_toArray, List.set_cons_zero, List.set_cons_succ]
                refine wpAnyZ_one (i := 13) (o := { dst := some 97, op := Go.Op.call { callee := Go.Callee.builtin Go.Builtin.append, args := #[Go.Operand.tmp 91, Go.Operand.tmp 96], argTypes := #[26, 26] }, type := 26, pos := "ref.go:103", after := #[{ on := 7, ground := Go.Ground.data }, { on := 12, ground := Go.Ground.data }, { on := 7, ground := Go.Ground.chain }], guard := none }) (by kernel_rfl) rfl (by rfl) (fun K hK => ?_)
                have hz7 := ownT_size (r7o) (by have h9 := S5.out; have h8 := S12.out; omega)
                obtain ⟨v13, u8, hr13, r13, f13, t13⟩ := run_app_any (P := Tryz.prog) u7 (w0.heap.size) 26 26 26 9 i0 _ 1 16 Tryz.underlying26 hi0 hz0 hz1 hz2 rfl (.slice A7 ps.length c7) ps.length (ps.map encT) r7o (.slice (some ⟨u1.heap.size, 0, none⟩) 1 1) 1 ([x].map encT) (srcT x12c) (by unfold maxLen; omega) (by omega) (by omega)
                have F8 : Fr (fun _ => False) wr u8 := (F7).trans3 f13 fun k hk e => by have e2 := ((r7o).lt k e).1; omega
                obtain ⟨A13, c13, rfl⟩ := row_slice r13
                have HNu := Lib.hid (HNum.out u8 A13 c13 (reads_ownT (base := w0.heap.size) (n := ps.length + 1) (c := c13) (by unfold OwnT; rw [List.length_append, List.map_append]; exact r13)))
                refine wp_app_run _ _ _ _ rfl (v := .slice A13 (ps.length + 1) c13) (W' := u8) (by exact hr13) ?_
                refine hK.out _ _ ?_ (fun hHeld => ?_)
                · exact F8
                clear hK K
                try simp only [Act.put, List.setIfInBounds_toArray, List.set_cons_zero, List.set_cons_succ]
                refine wpAnyZ_one (i := 14) (o := { dst := some 98, op := Go.Op.call { callee := Go.Callee.value (Go.Operand.func 17), args := #[Go.Operand.tmp 86, Go.Operand.tmp 87, Go.Operand.tmp 88, Go.Operand.tmp 97], argTypes := #[9, 3, 9, 26] }, type := 9, pos := "ref.go:103", after := #[{ on := 2, ground := Go.Ground.data }, { on := 3, ground := Go.Ground.data }, { on := 4, ground := Go.Ground.data }, { on := 13, ground := Go.Ground.data }, { on := 13, ground := Go.Ground.chain }], guard := none }) (by kernel_rfl) rfl (by rfl) (fun K hK => ?_)
                go_simp
                refine (HNu.out).mono ?_
                rintro e9 u9 ⟨rfl, hb14⟩
                have F9 : Fr (fun _ => False) wr u9 := (F8).trans (Fr.of_below hb14)
                obtain ⟨y1, y2⟩ := HST.out u9 F9
                refine hK.out _ _ ?_ (fun hHeld => ?_)
                · exact F9
                clear hK K
                try simp only [Act.put, List.setIfInBounds_toArray, List.set_cons_zero, List.set_cons_succ]
                refine wpAnyZ_read (i := 15) (oi := { dst := some 99, op := Go.Op.indexAddr 26 (Go.Operand.tmp 84) (Go.Operand.tmp 85), type := 0, pos := "ref.go:103", after := #[{ on := 0, ground := Go.Ground.data }, { on := 1, ground := Go.Ground.data }, { on := 0, ground := Go.Ground.phase }, { on := 1, ground := Go.Ground.phase }, { on := 2, ground := Go.Ground.phase }, { on := 3, ground := Go.Ground.phase }, { on := 4, ground := Go.Ground.phase }, { on := 5, ground := Go.Ground.phase }, { on := 6, ground := Go.Ground.phase }, { on := 7, ground := Go.Ground.phase }, { on := 8, ground := Go.Ground.phase }, { on := 9, ground := Go.Ground.phase }, { on := 10, ground := Go.Ground.phase }, { on := 11, ground := Go.Ground.phase }, { on := 12, ground := Go.Ground.phase }, { on := 13, ground := Go.Ground.phase }, { on := 14, ground := Go.Ground.phase }], guard := none }) ?_ rfl (by kernel_rfl) (by kernel_rfl) (by kernel_rfl) (by kernel_rfl) (fun _ _ _ h => h) (by rfl) (by exact hHeld) ?_ ?_
                rotate_left
                · (intro w0 hS0; go_simp <;> (try with_reducible rfl))
                try simp only [Act.put, List.setIfInBounds_toArray, List.set_cons_zero, List.set_cons_succ]
                refine wpAnyZ_last (o := { dst := none, op := Go.Op.store 9 (Go.Operand.tmp 99) (Go.Operand.tmp 98), type := 0, pos := "ref.go:103", after := #[{ on := 15, ground := Go.Ground.data }, { on := 14, ground := Go.Ground.data }, { on := 14, ground := Go.Ground.chain }, { on := 0, ground := Go.Ground.phase }, { on := 1, ground := Go.Ground.phase }, { on := 2, ground := Go.Ground.phase }, { on := 3, ground := Go.Ground.phase }, { on := 4, ground := Go.Ground.phase }, { on := 5, ground := Go.Ground.phase }, { on := 6, ground := Go.Ground.phase }, { on := 7, ground := Go.Ground.phase }, { on := 8, ground := Go.Ground.phase }, { on := 9, ground := Go.Ground.phase }, { on := 10, ground := Go.Ground.phase }, { on := 11, ground := Go.Ground.phase }, { on := 12, ground := Go.Ground.phase }, { on := 13, ground := Go.Ground.phase }, { on := 14, ground := Go.Ground.phase }], guard := none }) (by kernel_rfl) rfl (by rfl) (fun K hK => ?_)
                go_simp
                refine hK.out _ _ ?_
                clear hK K
                try simp only [Act.put, List.setIfInBounds_toArray, List.set_cons_zero, List.set_cons_succ]
                refine wpAnyZ_done (by kernel_rfl) ?_ _
                have HE9 := Lib.hid (HEnd.out u9 F9)
                clear HHd HNum HST HEnd HCELL HCELL2
                go_wp2_with fail
                go_roundw
                case rel => exact ⟨k + 1, by go_num, by omega, HE9.out.1, HE9.out.2⟩
                case measure => simp [Go.RowKit.intOf]; omega
            · go_simp
              obtain ⟨u10, hu10⟩ : ∃ W, w0.alloc (.cells #[.string (bs x)] 9) = W := ⟨_, rfl⟩
              rw [hu10]
              obtain ⟨p12, s12, q12⟩ := mkX w0 u10 x hu10
              have S12 := Lib.hid s12
              clear s12
              have F10 : Fr (fun _ => False) wr u10 := (F0).trans q12
              refine hK.out _ _ ?_ (fun hHeld => ?_)
              · exact F10
              clear hK K
              try simp only [Act.put, List.setIfInBounds_toArray, List.set_cons_zero, List.set_cons_succ]
              refine wpAnyZ_one (i := 5) (o := { dst := some 89, op := Go.Op.buildSlice 26 0 #[], type := 26, pos := "ref.go:103", after := #[], guard := none }) (by kernel_rfl) rfl (by rfl) (fun K hK => ?_)
              go_simp
              obtain ⟨u11, hu11⟩ : ∃ W, u10.alloc (.cells #[] 9) = W := ⟨_, rfl⟩
              rw [hu11]
              obtain ⟨p5, s5, q5⟩ := mkE u10 u11 hu11
              have S5 := Lib.hid s5
              clear s5
              have F11 : Fr (fun _ => False) wr u11 := (F10).trans q5
              have z5 : wr.heap.size ≤ u10.heap.size := (F10).size
              have x12b := readsT_frX p12 q5 fun e => e
              refine hK.out _ _ ?_ (fun hHeld => ?_)
              · exact F11
              clear hK K
              try simp only [Act.put, List.setIfInBounds_toArray, List.set_cons_zero, List.set_cons_succ]
              refine wpAnyZ_one (i := 7) (o := { dst := some 91, op := Go.Op.call { callee := Go.Callee.builtin Go.Builtin.append, args := #[Go.Operand.tmp 89, Go.Operand.tmp 90], argTypes := #[26, 26] }, type := 26, pos := "ref.go:103", after := #[{ on := 5, ground := Go.Ground.data }, { on := 6, ground := Go.Ground.data }], guard := none }) (by kernel_rfl) rfl (by rfl) (fun K hK => ?_)
              obtain ⟨v7, u12, hr7, r7, f7, t7⟩ := run_app_any (P := Tryz.prog) u11 u10.heap.size 26 26 26 9 i0 _ 1 16 Tryz.underlying26 hi0 hz0 hz1 hz2 rfl (.slice (some ⟨u10.heap.size, 0, none⟩) 0 0) 0 [] p5 (.slice A ps.length c) ps.length (ps.map encT) (srcT (HHd.out u11 F11)) (by unfold maxLen; omega) (by omega) (by have h9 := S5.out; have h8 := S12.out; omega)
              have F12 : Fr (fun _ => False) wr u12 := (F11).trans3 f7 fun k hk e => by have e2 : u10.heap.size = k := Option.some.inj e; omega
              have z7 := f7.size
              rw [Nat.zero_add, List.nil_append] at r7
              obtain ⟨A7, c7, rfl⟩ := row_slice r7
              have r7o : OwnT (u10.heap.size) u12 (.slice A7 ps.length c7) ps := r7
              have x12c := readsT_frX x12b f7 fun e => by have e2 : u10.heap.size = w0.heap.size := Option.some.inj e; have h9 := S5.out; have h8 := S12.out; omega
              refine wp_app_run _ _ _ _ rfl (v := .slice A7 ps.length c7) (W' := u12) (by exact hr7) ?_
              refine hK.out _ _ ?_ (fun hHeld => ?_)
              · exact F12
              clear hK K
              try simp only [Act.put, List.setIfInBounds_toArray, List.set_cons_zero, List.set_cons_succ]
              refine wpAnyZ_one (i := 13) (o := { dst := some 97, op := Go.Op.call { callee := Go.Callee.builtin Go.Builtin.append, args := #[Go.Operand.tmp 91, Go.Operand.tmp 96], argTypes := #[26, 26] }, type := 26, pos := "ref.go:103", after := #[{ on := 7, ground := Go.Ground.data }, { on := 12, ground := Go.Ground.data }, { on := 7, ground := Go.Ground.chain }], guard := none }) (by kernel_rfl) rfl (by rfl) (fun K hK => ?_)
              have hz7 := ownT_size (r7o) (by have h9 := S5.out; have h8 := S12.out; omega)
              obtain ⟨v13, u13, hr13, r13, f13, t13⟩ := run_app_any (P := Tryz.prog) u12 (u10.heap.size) 26 26 26 9 i0 _ 1 16 Tryz.underlying26 hi0 hz0 hz1 hz2 rfl (.slice A7 ps.length c7) ps.length (ps.map encT) r7o (.slice (some ⟨w0.heap.size, 0, none⟩) 1 1) 1 ([x].map encT) (srcT x12c) (by unfold maxLen; omega) (by omega) (by omega)
              have F13 : Fr (fun _ => False) wr u13 := (F12).trans3 f13 fun k hk e => by have e2 := ((r7o).lt k e).1; omega
              obtain ⟨A13, c13, rfl⟩ := row_slice r13
              have HNu := Lib.hid (HNum.out u13 A13 c13 (reads_ownT (base := u10.heap.size) (n := ps.length + 1) (c := c13) (by unfold OwnT; rw [List.length_append, List.map_append]; exact r13)))
              refine wp_app_run _ _ _ _ rfl (v := .slice A13 (ps.length + 1) c13) (W' := u13) (by exact hr13) ?_
              refine hK.out _ _ ?_ (fun hHeld => ?_)
              · exact F13
              clear hK K
              try simp only [Act.put, List.setIfInBounds_toArray, List.set_cons_zero, List.set_cons_succ]
              refine wpAnyZ_one (i := 14) (o := { dst := some 98, op := Go.Op.call { callee := Go.Callee.value (Go.Operand.func 17), args := #[Go.Operand.tmp 86, Go.Operand.tmp 87, Go.Operand.tmp 88, Go.Operand.tmp 97], argTypes := #[9, 3, 9, 26] }, type := 9, pos := "ref.go:103", after := #[{ on := 2, ground := Go.Ground.data }, { on := 3, ground := Go.Ground.data }, { on := 4, ground := Go.Ground.data }, { on := 13, ground := Go.Ground.data }, { on := 13, ground := Go.Ground.chain }], guard := none }) (by kernel_rfl) rfl (by rfl) (fun K hK => ?_)
              go_simp
              refine (HNu.out).mono ?_
              rintro e9 u14 ⟨rfl, hb14⟩
              have F14 : Fr (fun _ => False) wr u14 := (F13).trans (Fr.of_below hb14)
              obtain ⟨y1, y2⟩ := HST.out u14 F14
              refine hK.out _ _ ?_ (fun hHeld => ?_)
              · exact F14
              clear hK K
              try simp only [Act.put, List.setIfInBounds_toArray, List.set_cons_zero, List.set_cons_succ]
              refine wpAnyZ_read (i := 15) (oi := { dst := some 99, op := Go.Op.indexAddr 26 (Go.Operand.tmp 84) (Go.Operand.tmp 85), type := 0, pos := "ref.go:103", after := #[{ on := 0, ground := Go.Ground.data }, { on := 1, ground := Go.Ground.data }, { on := 0, ground := Go.Ground.phase }, { on := 1, ground := Go.Ground.phase }, { on := 2, ground := Go.Ground.phase }, { on := 3, ground := Go.Ground.phase }, { on := 4, ground := Go.Ground.phase }, { on := 5, ground := Go.Ground.phase }, { on := 6, ground := Go.Ground.phase }, { on := 7, ground := Go.Ground.phase }, { on := 8, ground := Go.Ground.phase }, { on := 9, ground := Go.Ground.phase }, { on := 10, ground := Go.Ground.phase }, { on := 11, ground := Go.Ground.phase }, { on := 12, ground := Go.Ground.phase }, { on := 13, ground := Go.Ground.phase }, { on := 14, ground := Go.Ground.phase }], guard := none }) ?_ rfl (by kernel_rfl) (by kernel_rfl) (by kernel_rfl) (by kernel_rfl) (fun _ _ _ h => h) (by rfl) (by exact hHeld) ?_ ?_
              rotate_left
              · (intro w0 hS0; go_simp <;> (try with_reducible rfl))
              try simp only [Act.put, List.setIfInBounds_toArray, List.set_cons_zero, List.set_cons_succ]
              refine wpAnyZ_last (o := { dst := none, op := Go.Op.store 9 (Go.Operand.tmp 99) (Go.Operand.tmp 98), type := 0, pos := "ref.go:103", after := #[{ on := 15, ground := Go.Ground.data }, { on := 14, ground := Go.Ground.data }, { on := 14, ground := Go.Ground.chain }, { on := 0, ground := Go.Ground.phase }, { on := 1, ground := Go.Ground.phase }, { on := 2, ground := Go.Ground.phase }, { on := 3, ground := Go.Ground.phase }, { on := 4, ground := Go.Ground.phase }, { on := 5, ground := Go.Ground.phase }, { on := 6, ground := Go.Ground.phase }, { on := 7, ground := Go.Ground.phase }, { on := 8, ground := Go.Ground.phase }, { on := 9, ground := Go.Ground.phase }, { on := 10, ground := Go.Ground.phase }, { on := 11, ground := Go.Ground.phase }, { on := 12, ground := Go.Ground.phase }, { on := 13, ground := Go.Ground.phase }, { on := 14, ground := Go.Ground.phase }], guard := none }) (by kernel_rfl) rfl (by rfl) (fun K hK => ?_)
              go_simp
              refine hK.out _ _ ?_
              clear hK K
              try simp only [Act.put, List.setIfInBounds_toArray, List.set_cons_zero, List.set_cons_succ]
              refine wpAnyZ_done (by kernel_rfl) ?_ _
              have HE9 := Lib.hid (HEnd.out u14 F14)
              clear HHd HNum HST HEnd HCELL HCELL2
              go_wp2_with fail
              go_roundw
              case rel => exact ⟨k + 1, by go_num, by omega, HE9.out.1, HE9.out.2⟩
              case measure => simp [Go.RowKit.intOf]; omega
          · obtain rfl : k = R.length := by omega
            have hfin : (R.take R.length).map f ++ R.drop R.length = R.map f := by rw [List.take_length, List.drop_length, List.append_nil]
            rw [hfin] at hown
            have HFin := Lib.hid (And.intro hown hB)
            clear hown hB hfin
            go_wp2_with fail
            go_ret
            have hl2 : (packL server whom n ps ws).length = R.length := by rw [HPk.out, List.length_map]
            refine ⟨some ⟨g, 0, none⟩, cv, ?_, ?_, HFin.out.2⟩
            · rw [hl2]; rfl
            · rw [HPk.out]
              have h3 := HFin.out.1
              exact reads_ownT h3
end Go.Proofs.YtkbgpajconhgjaaGreatDoor
end
