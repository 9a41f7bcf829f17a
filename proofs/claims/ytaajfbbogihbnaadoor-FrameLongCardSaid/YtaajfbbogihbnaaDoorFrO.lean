/- Layer 5: FrameLong, walked. -/
import Derived.Test.YtaajfbbogihbnaaDoorFrN
import Derived.Test.YtaajfbbogihbnaaDoorFrF
import Derived.Laws.MakeOwn
namespace Go.Proofs.YtaajfbbogihbnaaDoor
set_option linter.unusedVariables false
set_option linter.unusedSimpArgs false
open Go Go.RowKit Go.Lib

theorem made8 (k : Nat) : madeCells #[Value.int .u8 0] (k * 1) = Array.replicate k (.int .u8 0) := by
  apply Array.ext
  · simp [madeCells]
  · intro i h1 h2
    simp [madeCells, Nat.mod_one]
theorem make8 (k : Nat) (hk : k ≤ 1000000) (w : World) : (Instr.makeSlice 26 (.int .i64 k) (.int .i64 k)).run Tryd.prog w = .ok (.slice (some ⟨w.heap.size, 0, none⟩) k k) (w.alloc (.cells (Array.replicate k (.int .u8 0)) 5)) := by
  obtain ⟨i1, hi1, hy0, hy1, hy2⟩ := info_parts Tryd.info8
  have hmk := run_make (P := Tryd.prog) w 26 5 i1 _ Tryd.underlying26 hi1 hy0 .i64 .i64 k k (by omega) (Int.le_refl _) (by rw [hy2]; omega) (by omega)
  rw [Int.toNat_natCast, hy1] at hmk
  have e : (Value.int .u8 0).cells = #[Value.int .u8 0] := rfl
  rw [e, made8] at hmk
  exact hmk
set_option maxRecDepth 1000000 in
set_option maxHeartbeats 16000000 in
theorem frameLong_walk (n m : Nat) (hn : n < 256) (hm : m < 256) (w : World) (hT : Tabs8 w) :
    Calls Tryd.prog 5 #[.int .u8 n, .int .u8 m] w fun e w' => e = .returned (.bool true) ∧ Below w.heap.size w w' := by
  obtain ⟨i0, hi0, hq0, hq1, hq2⟩ := info_parts Tryd.infoLn
  obtain ⟨i1, hi1, hy0, hy1, hy2⟩ := info_parts Tryd.info8
  have hT3 := tabs8_lt hT
  have HT := Lib.hid hT
  have HA := Lib.hid (awake05 w hT)
  clear hT
  obtain ⟨r, hr⟩ : ∃ r, n % 21 = r := ⟨_, rfl⟩
  have hrl : r < 21 := by omega
  have hmod : Int.tmod (n : Int) 21 = (r : Int) := by rw [Int.tmod_eq_emod_of_nonneg (by omega)]; omega
  have hmod2 : (n : Int) % 21 = (r : Int) := by omega
  obtain ⟨k, hk⟩ : ∃ k, 500 + r = k := ⟨_, rfl⟩
  have hkI : (500 : Int) + (r : Int) = (k : Int) := by omega
  have hk0 : (0 : Int) ≤ (k : Int) := by omega
  have hw0 : IntKind.i64.wrap ((500 : Int) + (r : Int)) = (k : Int) := by rw [IntWalk.i64_in _ (by omega)]; omega
  clear hr hk
  go_enter Tryd.func5, Tryd.ntmps5
  go_wp2_with fail
  refine HA.out.mono ?_
  rintro e w1 ⟨rfl, f1⟩
  clear HA
  have HF1 := Lib.hid f1
  have hz1 := f1.size
  clear f1
  have hmk := make8 k (by omega) w1
  have hO0 : Own8 w.heap.size (w1.alloc (.cells (Array.replicate k (.int .u8 0)) 5)) (.slice (some ⟨w1.heap.size, 0, none⟩) k k) (xsAt 0 k) := by
    have := own8_made (base := w.heap.size) (w := w1) (k := k) (by unfold maxLen; omega) hz1
    simpa [xsAt] using this
  have HO0 := Lib.hid hO0
  clear hO0
  go_wp2_with fail
  clear hmk
  go_loopg [7] k (fun g s7 wr => ∃ i : Nat, i + g = k ∧ s7 = .int .i64 i ∧ Hid (Own8 w.heap.size wr (.slice (some ⟨w1.heap.size, 0, none⟩) k k) (xsAt i k) ∧ Fr (fun _ => False) w1 wr))
  case atStart => exact ⟨0, by omega, rfl, HO0.out, (Fr.refl _ w1).alloc _⟩
  case round =>
    obtain ⟨i, hig, rfl, HX⟩ := hrel
    clear HO0
    cases gk with
    | succ gm =>
      have hi : i < k := by omega
      have hiz : (i : Int) < (k : Int) := by omega
      have hwi : IntKind.i64.wrap ((i : Int) + 1) = (i : Int) + 1 := IntWalk.i64_in _ (by omega)
      have c1 := own8_cell HX.out.1 (j := i) (by rw [xsAt_len (by omega)]; exact hi)
      have g1 := own8_free HX.out.1 i
      unfold enc8 at c1
      have HN : Hid (Own8 w.heap.size (wr.setCell ⟨w1.heap.size, i, none⟩ (.int .u8 120)) (.slice (some ⟨w1.heap.size, 0, none⟩) k k) (xsAt (i + 1) k) ∧ Fr (fun _ => False) w1 (wr.setCell ⟨w1.heap.size, i, none⟩ (.int .u8 120))) := by
        have := own8_set HX.out.1 i (by rw [xsAt_len (by omega)]; exact hi) 120
        rw [xsAt_set hi] at this
        exact ⟨this, HX.out.2.setNew ⟨w1.heap.size, i, none⟩ (Nat.le_refl _) _⟩
      go_wp2_with fail
      go_roundg gm
      case measure => omega
      case rel => exact ⟨i + 1, by omega, by simp, HN⟩
    | zero =>
      obtain rfl : i = k := by omega
      have hiz : ¬ ((i : Int) < (i : Int)) := by omega
      have hxk : xsAt i i = List.replicate i 120 := by unfold xsAt; simp
      obtain ⟨oX, fX⟩ := HX.out
      rw [hxk] at oX
      have hor : wr.ownsRow w.heap.size 5 1 (.slice (some ⟨w1.heap.size, 0, none⟩) i i) i ((List.replicate i (120 : UInt8)).map enc8) := by
        have := oX
        unfold Own8 at this
        rwa [List.length_replicate] at this
      have HO := Lib.hid hor
      have HX2 := Lib.hid (And.intro oX fX)
      clear HX oX fX hor hxk
      go_wp2_with (at_builtin; refine Hid.out ?_)
      refine Lib.hid ?_
      refine wpList_app_u rfl _ _ 26 9 rfl w.heap.size 5 i1 _ 1 1 Tryd.underlying26 hi1 hy0 hy1 hy2 rfl _ i _ rfl HO.out (.string ⟨#[13, 10, 110, 101, 120, 116, 10]⟩) 7 (byteCells ⟨#[13, 10, 110, 101, 120, 116, 10]⟩) rfl (Src.ofString _ Tryd.underlying9 ⟨#[13, 10, 110, 101, 120, 116, 10]⟩) (by omega) (by decide) (by have := HX2.out.2.size; omega) ?_
      intro v2 W2 o2 f2 t2
      have o2' : Own8 w.heap.size W2 v2 (List.replicate i 120 ++ nextB) := by
        refine own8_app (xs := List.replicate i 120) (ys := nextB) ?_
        rw [List.length_replicate]
        exact o2
      have hTl : (List.replicate i (120 : UInt8) ++ nextB).length = i + 7 := by simp [nextB]
      obtain ⟨A2, c2, ev2, hn2, hm2, hb2⟩ := own8_form o2'
      rw [hTl] at ev2 hn2
      subst ev2
      have F2 : Fr (fun _ => False) w W2 := (HF1.out.trans HX2.out.2).trans3 f2 fun q hq e => by
        have := (own_lt8 HX2.out.1 e).1; omega
      have H2 := Lib.hid (And.intro o2' (And.intro F2 hb2))
      have hW2z := F2.size
      clear HX2 HO o2 f2 t2 o2' F2 hb2
      go_wp2_with fail
      refine (newFr W2).mono ?_
      rintro e W3 ⟨rfl, r3, f3, z3⟩
      obtain ⟨o2, F2, hb2⟩ := H2.out
      have F3 := F2.trans f3
      have o3 : Own8 w.heap.size W3 (.slice A2 (i + 7) c2) (List.replicate i 120 ++ nextB) := own8_kept o2 fun g hg => f3.block g (hb2 g hg).2 fun e => e
      have H3 := Lib.hid (And.intro o3 (And.intro F3 (And.intro r3 hb2)))
      clear H2 o2 F2 o3 F3 r3 f3 hb2
      have hw1 : (0 : Int) ≤ (m : Int) := by omega
      have hw2 : (m : Int) ≤ (c2 : Int) := by omega
      obtain ⟨T, hTd⟩ : ∃ T, List.replicate i (120 : UInt8) ++ nextB = T := ⟨_, rfl⟩
      rw [hTd] at hTl
      have hfeedT := long_feed i (by omega)
      rw [hTd] at hfeedT
      have htk : (T.take m).length = m := by rw [List.length_take, hTl]; omega
      have hF1 : Calls Tryd.prog 9 #[.pointer (some ⟨W2.heap.size, 0, none⟩), .slice A2 m c2] W3 (FeedP W2.heap.size (.slice none 0 0) ([], false) (T.take m) W3) := by
        obtain ⟨o3, F3, r3, hb2⟩ := H3.out
        have o3a := own8_at o3
        rw [hTd] at o3a
        obtain ⟨A', c', e', q1, q2, q3, q4⟩ := o3a
        rw [hTl] at e'
        cases e'
        have hpre : At8 W3 (.slice A2 (T.take m).length c2) (T.take m) := at8_pre (b := T.drop m) (by rw [List.take_append_drop]; exact q1) q2 q3 (by rw [List.take_append_drop]; exact q4)
        rw [htk] at hpre
        refine feedFr W2.heap.size _ _ _ (T.take m) W3 (by omega) hpre r3 good_new (tabs8_kept HT.out F3 fun _ _ e => e) (by omega) (fun k hk => by cases hk) (fun _ e => ?_)
        have : (Value.slice A2 (i + 7) c2).ownBlock = some W2.heap.size := by cases A2 <;> first | exact e | cases e
        have := (hb2 _ this).2; omega
      have HF := Lib.hid hF1
      clear hF1
      go_wp2_with fail
      refine HF.out.mono ?_
      rintro e W4 ⟨v4, r4, rfl, o4, k4, d4, f4⟩
      clear HF hw1 hw2
      obtain ⟨os1, hos1⟩ : ∃ x, (feedM ([], false) (T.take m)).1 = x := ⟨_, rfl⟩
      obtain ⟨st1, hst1⟩ : ∃ x, (feedM ([], false) (T.take m)).2 = x := ⟨_, rfl⟩
      have hgd1 : good st1 := by rw [← hst1]; exact feedM_good _ _ good_new
      rw [hos1] at o4
      rw [hst1] at k4
      have hW3z := H3.out.2.1.size
      obtain ⟨A3, hsl, hsv⟩ := run_drop8 (A := A2) (c := c2) (l := T) m (by omega) (by omega)
      rw [hTl] at hsl hsv
      have F4 : Fr (fun _ => False) w W4 := H3.out.2.1.trans3 f4 fun q hq e => by
        rcases e with e | e
        · omega
        · cases e
      have hF2 : Calls Tryd.prog 9 #[.pointer (some ⟨W2.heap.size, 0, none⟩), .slice A3 (i + 7 - m) (c2 - m)] W4 (FeedP W2.heap.size v4 st1 (T.drop m) W4) := by
        obtain ⟨o3, F3, r3, hb2⟩ := H3.out
        have o3a := own8_at o3
        rw [hTd] at o3a
        have hk : ∀ q, (Value.slice A2 (i + 7) c2).ownBlock = some q → ¬ (q = W2.heap.size ∨ (Value.slice none 0 0).ownBlock = some q) := by
          rintro q hq (e | e)
          · have := (hb2 _ hq).2; omega
          · cases e
        have o4a := at8_kept o3a f4 fun q _ hq => hk q hq
        obtain ⟨A', c', e', q1, q2, q3, q4⟩ := o4a
        rw [hTl] at e'
        cases e'
        have hdr := at8_drop q1 q2 q3 q4 m (by omega)
        rw [hTl, ← hsv] at hdr
        have hblk : ∀ q, (Value.slice A3 (i + 7 - m) (c2 - m)).ownBlock = some q → (Value.slice A2 (i + 7) c2).ownBlock = some q := fun q hq => by
          rw [hsv] at hq
          exact sliced_block hq
        have hz34 := r3.1
        have hsz3 := blk_lt r3.1
        refine feedFr W2.heap.size _ _ _ (T.drop m) W4 (by rw [List.length_drop]; omega) hdr k4 hgd1 (tabs8_kept HT.out F4 fun _ _ e => e) (by omega) (fun k hk2 => ?_) (fun _ e => ?_)
        · have hkk : W3.heap.size ≤ k := by
            rcases (d4 k hk2).2 with e | e
            · cases e
            · exact e
          exact ⟨by omega, fun _ e => by have := (hb2 _ (hblk _ e)).2; omega⟩
        · have := (hb2 _ (hblk _ e)).2; omega
      have HF := Lib.hid hF2
      have B4 : Fr (fun q => W2.heap.size ≤ q) W3 W4 := f4.mono fun q hq e => by
        rcases e with e | e
        · omega
        · cases e
      have H4 := Lib.hid (And.intro o4 (And.intro d4 (And.intro f4 (And.intro B4 F4))))
      have hW34 : W3.heap.size ≤ W4.heap.size := f4.size
      have hF3l := blk_lt H3.out.2.2.1.1
      obtain ⟨A4, c4, ev4⟩ := row_slice o4
      subst ev4
      clear hF2 o4 k4 d4 f4 B4 F4 hsv
      go_wp2_with fail
      refine HF.out.mono ?_
      rintro e W5 ⟨v5, r5, rfl, o5, k5, d5, f5⟩
      clear HF hsl
      obtain ⟨o4, d4, f4, B4, F4⟩ := H4.out
      have hfa := feedM_app (T.take m) ([], false) (T.drop m)
      rw [List.take_append_drop, hfeedT, hos1, hst1] at hfa
      obtain ⟨⟨os2, st2⟩, hfs⟩ : ∃ x, feedM st1 (T.drop m) = x := ⟨_, rfl⟩
      rw [hfs] at hfa o5 k5
      simp only [Prod.mk.injEq] at hfa o5 k5
      obtain ⟨hrows, rfl⟩ := hfa
      have hkeep : ∀ q, (Value.slice A4 os1.length c4).ownBlock = some q → ¬ (q = W2.heap.size ∨ v4.ownBlock = some q) := by
        rintro q hq (e | e)
        · have := (o4.lt q hq).1; omega
        · exact (d4 q e).1 hq
      have o45 : OwnLn w.heap.size W5 (.slice A4 os1.length c4) os1 := ownLn_base (ownLn_kept o4 fun g hg => f5.block g (o4.lt g hg).2 (hkeep g hg)) (by omega)
      have hlen2 := congrArg List.length hrows
      simp only [List.length_append, List.length_cons, List.length_nil, Nat.zero_add, Nat.reduceAdd] at hlen2
      have F5 : Fr (fun _ => False) w W5 := F4.trans3 f5 fun q hq e => by
        rcases e with e | e
        · omega
        · rcases (d4 q e).2 with e2 | e2
          · cases e2
          · omega
      have B5 : Fr (fun q => W2.heap.size ≤ q) W3 W5 := B4.trans3 f5 fun q hq e => by
        rcases e with e | e
        · omega
        · rcases (d4 q e).2 with e2 | e2
          · cases e2
          · omega
      obtain ⟨A5, c5, ev5⟩ := row_slice o5
      subst ev5
      have hb4 : ∀ q, (Value.slice A4 os1.length c4).ownBlock = some q → q < W4.heap.size := fun q hq => (o4.lt q hq).2
      have HO5 := Lib.hid (And.intro o45 (srcLn o5))
      have hW45 := f5.size
      have hdk : ∀ q, v5.ownBlock = some q → (Value.slice A4 os1.length c4).ownBlock ≠ some q := fun q hq e => by
        rcases (d5 q hq).2 with e2 | e2
        · exact (d4 q e2).1 e
        · have := hb4 q e; omega
      have hdF : (Value.slice A4 os1.length c4).ownBlock ≠ some W2.heap.size := fun e => by have := (o4.lt _ e).1; omega
      have H5 := Lib.hid (And.intro k5 (And.intro F5 (And.intro hdk (And.intro hdF (And.intro o45 (And.intro hrows (And.intro B5 o4)))))))
      clear H4 B4 B5 o4 d4 f4 F4 hkeep o45 F5 o5 k5 d5 f5 hb4 hdk hdF hrows hfs
      go_wp2_with (at_builtin; refine Hid.out ?_)
      refine Lib.hid ?_
      refine wpList_app_u rfl _ _ 27 27 rfl w.heap.size 38 i0 _ 2 24 Tryd.underlying27 hi0 hq0 hq1 hq2 rfl _ os1.length (os1.flatMap encL2) rfl HO5.out.1 (.slice A5 os2.length c5) os2.length (os2.flatMap encL2) rfl HO5.out.2 (by omega) (by decide) (by omega) ?_
      intro v6 W6 o6 f6 t6
      obtain ⟨k5, F5, hdk, hdF, o45, hrows, B5, o4⟩ := H5.out
      have o6' : OwnLn w.heap.size W6 v6 (os1 ++ os2) := ownLn_app o6
      rw [← hrows] at o6'
      have k6 : FrA W2.heap.size v5 ([], false) W6 := frA_kept k5 f6 (fun e => hdF e) fun q hq e => hdk q hq e
      have F6 : Fr (fun _ => False) w W6 := F5.trans3 f6 fun q hq e => by have := (o45.lt q e).1; omega
      obtain ⟨g, c6, ev6, hbg, hgl, hcc⟩ := ownLn_cell o6' (by simp)
      simp only [List.length_cons, List.length_nil, Nat.zero_add, Nat.reduceAdd] at ev6
      subst ev6
      have e00 : W6.cell? ⟨g, 0, none⟩ = some (.string (bs (firstLn i).1)) := (hcc 0 (by simp)).1
      have e01 : W6.cell? ⟨g, 1, none⟩ = some (.bool (firstLn i).2) := (hcc 0 (by simp)).2
      have e10 : W6.cell? ⟨g, 2, none⟩ = some (.string { data := #[110, 101, 120, 116] }) := (hcc 1 (by simp)).1
      have e11 : W6.cell? ⟨g, 3, none⟩ = some (.bool false) := (hcc 1 (by simp)).2
      have HR := Lib.hid (restFr _ _ _ W6 k6)
      have B6 : Fr (fun q => W2.heap.size ≤ q) W3 W6.drew := (B5.trans3 f6 fun q hq e => by have := (o4.lt q e).1; omega).drew
      have hcv : (convert 26 9 (.slice A2 i c2)).run Tryd.prog W6.drew = .ok (.string (bs (List.replicate i 120))) W6.drew := by
        obtain ⟨o3, F3, r3, hb2⟩ := H3.out
        have o3a := at8_kept (own8_at o3) B6 fun q _ hq e => by have := (hb2 q hq).2; omega
        obtain ⟨A', c', e', q1, q2, q3, q4⟩ := o3a
        rw [hTd, hTl] at e'
        cases e'
        have hpre := at8_pre (c := c2) q1 q2 q3 q4
        rw [List.length_replicate] at hpre
        exact conv_at8 hpre
      have hi0 : (0 : Int) ≤ (i : Int) := by omega
      have hic : (i : Int) ≤ (c2 : Int) := by omega
      have H6 := Lib.hid F6
      clear H5 k5 F5 hdk hdF o45 hrows o6 f6 t6 o6' k6 F6 hcc HO5 hlen2 htk hTl B5 o4 B6
      by_cases h510 : 510 < i
      · have h5 : (510 : Int) < (i : Int) := by omega
        have hfl : firstLn i = ([], true) := by unfold firstLn; rw [if_pos h510]
        rw [hfl] at e00 e01
        have e00' : W6.cell? ⟨g, 0, none⟩ = some (.string { data := #[] }) := e00
        clear e00 hfl h510
        go_wp2_with (go_at_call 12; refine HR.out.mono ?_; rintro e W9 ⟨rfl, rfl⟩)
        go_ret
        exact ⟨rfl, H6.out.below (Nat.le_refl _) fun _ _ e => e.elim⟩
      · have h5 : ¬ ((510 : Int) < (i : Int)) := by omega
        have hfl : firstLn i = (List.replicate i 120, false) := by unfold firstLn; rw [if_neg h510]
        rw [hfl] at e00 e01
        clear hfl h510
        go_wp2_with (go_at_call 12; refine HR.out.mono ?_; rintro e W9 ⟨rfl, rfl⟩)
        go_region
        all_goals
          go_wp2_with fail
          go_ret
          exact ⟨rfl, (H6.out.drew).below (Nat.le_refl _) fun _ _ e => e.elim⟩
end Go.Proofs.YtaajfbbogihbnaaDoor
