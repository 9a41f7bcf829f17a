/- Layer 5: FrameFeeds, walked. -/
import Derived.Test.YtaajfbbogihbnaaDoorFrJ
namespace Go.Proofs.YtaajfbbogihbnaaDoor
set_option linter.unusedVariables false
set_option linter.unusedSimpArgs false
open Go Go.RowKit Go.Lib

theorem flat_take {ps : List (List UInt8)} {i : Nat} (h : i < ps.length) : (ps.take (i + 1)).flatten = (ps.take i).flatten ++ ps[i] := by
  rw [List.take_succ_eq_append_getElem h, List.flatten_append, List.flatten_cons, List.flatten_nil, List.append_nil]
set_option maxRecDepth 1000000 in
set_option maxHeartbeats 16000000 in
theorem frameFeeds_walk (v : Value) (ps : List (List UInt8)) (w : World) (hP : Pieces w v ps) (hT : Tabs8 w) :
    Calls Tryd.prog 3 #[v] w fun e w' => e = .returned (.bool true) ∧ Below w.heap.size w w' := by
  obtain ⟨i0, hi0, hq0, hq1, hq2⟩ := info_parts Tryd.infoLn
  obtain ⟨i1, hi1, hy0, hy1, hy2⟩ := info_parts Tryd.info8
  obtain ⟨A, c, rfl, hc⟩ := hP
  have hT3 := tabs8_lt hT
  have H := Lib.hid (And.intro hc hT)
  have HA := Lib.hid (awake05 w hT)
  clear hc hT
  go_enter Tryd.func3, Tryd.ntmps3
  go_wp2_with fail
  refine HA.out.mono ?_
  rintro e w1 ⟨rfl, f1⟩
  clear HA
  have HF1 := Lib.hid f1
  have hz1 := f1.size
  clear f1
  by_cases h20 : ps.length ≤ 20
  · have h20' : ¬ ((20 : Int) < (ps.length : Int)) := by omega
    go_wp2_with fail
    refine (newFr w1).mono ?_
    rintro e w2 ⟨rfl, r2, f2, z2⟩
    have HN := Lib.hid (show Hid (FF w.heap.size w1.heap.size [] [] ([], false) (.slice none 0 0) (.slice none 0 0) (.slice none 0 0) w2 ∧ Fr (fun _ => False) w w2) from ⟨⟨own8_nil _ _, ownLn_nil _ _, r2, hz1, (fun k hk => by cases hk), (fun k hk => by cases hk), (fun k hk => by cases hk)⟩, HF1.out.trans f2⟩)
    clear r2 f2 z2 h20'
    go_wp2_with fail
    go_loopg [4, 5, 6, 7, 8, 9] ps.length (fun g s4 s5 s6 _ _ _ wr => ∃ (i : Nat) (A4 : Option Addr) (c4 : Nat) (A5 : Option Addr) (c5 : Nat) (os : List FSt) (st : FSt) (fv : Value), i + g = ps.length ∧ s6 = .int .i64 i ∧ s4 = .slice A4 (ps.take i).flatten.length c4 ∧ s5 = .slice A5 os.length c5 ∧
      Hid (FF w.heap.size w1.heap.size (ps.take i).flatten os st (.slice A4 (ps.take i).flatten.length c4) (.slice A5 os.length c5) fv wr ∧ Fr (fun _ => False) w wr ∧ feedM ([], false) (ps.take i).flatten = (os, st) ∧ (ps.take i).flatten.length ≤ 600 * i))
    case atStart => exact ⟨0, none, 0, none, 0, [], ([], false), .slice none 0 0, by omega, rfl, rfl, rfl, HN.out.out.1, HN.out.out.2, rfl, Nat.le_refl _⟩
    case round =>
      obtain ⟨i, A4, c4, A5, c5, os, st, fv, hig, rfl, rfl, rfl, HX⟩ := hrel
      clear HN
      cases gk with
      | zero =>
        obtain rfl : i = ps.length := by omega
        have hiz : ¬ ((ps.length : Int) < (ps.length : Int)) := by omega
        go_wp2_with fail
        go_ret
        exact ⟨rfl, HX.out.2.1.below (Nat.le_refl _) fun _ _ e => e.elim⟩
      | succ gm =>
        have hi : i < ps.length := by omega
        have hiz : (i : Int) < (ps.length : Int) := by omega
        have hwi : IntKind.i64.wrap ((i : Int) + 1) = (i : Int) + 1 := IntWalk.i64_in _ (by omega)
        obtain ⟨g, o, rfl, hgl, hcc⟩ := H.out.1 (by omega)
        obtain ⟨B, d, hcell, hat⟩ := hcc i hi
        have hci := (HX.out.2.1.cell (p := ⟨g, o + i, none⟩) hgl fun e => e).trans hcell
        have hpa := at8_kept hat HX.out.2.1 fun _ _ _ e => e
        obtain ⟨p, hp⟩ : ∃ p, ps[i] = p := ⟨_, rfl⟩
        rw [hp] at hci hpa hat hcell
        by_cases h600 : p.length ≤ 600
        · have h6 : ¬ ((600 : Int) < (p.length : Int)) := by omega
          obtain ⟨ff, fr, hfd, hln⟩ := HX.out
          have hft := flat_take hi
          rw [hp] at hft
          obtain ⟨L, hL⟩ : ∃ L, (ps.take i).flatten = L := ⟨_, rfl⟩
          rw [hL] at ff hfd hln hft ⊢
          have HO := Lib.hid ff.oa
          have HS := Lib.hid (src8 hpa)
          have HG := Lib.hid (And.intro ff (And.intro fr (And.intro hfd (And.intro hln (And.intro hft (And.intro hcell (And.intro hat hgl)))))))
          have hLl : L.length ≤ 12000 := by omega
          clear HX ff fr hfd hln hft hcell hat hgl hpa hcc hp hL
          go_wp2_with (at_builtin; refine Hid.out ?_)
          refine Lib.hid ?_
          refine wpList_app_u rfl _ _ 26 26 rfl w.heap.size 5 i1 _ 1 1 Tryd.underlying26 hi1 hy0 hy1 hy2 rfl _ L.length (L.map enc8) rfl HO.out (.slice B p.length d) p.length (p.map enc8) rfl HS.out (by omega) (by decide) (by have := HG.out.2.1.size; omega) ?_
          intro v4 W4 o4 f4 t4
          obtain ⟨ff, fr, hfd, hln, hft, hcell, hat, hgl⟩ := HG.out
          have o4' : Own8 w.heap.size W4 v4 (L ++ p) := own8_app o4
          obtain ⟨B4, d4, ev4, _⟩ := own8_form o4'
          subst ev4
          have ff4 := ff.all o4' f4 t4
          have fr4 : Fr (fun _ => False) w W4 := fr.trans3 f4 fun k hk e => by have := (own_lt8 ff.oa e).1; omega
          have hci4 := (fr4.cell (p := ⟨g, o + i, none⟩) hgl fun e => e).trans hcell
          have hat4 := at8_kept hat fr4 fun _ _ _ e => e
          have hT4 : Tabs8 W4 := tabs8_kept H.out.2 fr4 fun _ _ e => e
          have hfeed := feedFr w1.heap.size fv st _ p W4 (by omega) hat4 ff4.r (by have := feedM_good L ([], false) good_new; rw [hfd] at this; exact this) hT4 (by omega) (fun k hk => ⟨by have := ff4.hv k hk; omega, fun h0 e => by have := ff4.hv k hk; have := at8_lt hat h0 e; omega⟩) (fun h0 e => by have := at8_lt hat h0 e; omega)
          have HFD := Lib.hid hfeed
          have HG4 := Lib.hid (And.intro ff4 (And.intro fr4 (And.intro hfd (And.intro hln hft))))
          clear HO HS HG ff fr hfd hln hft hcell hat hgl o4 f4 t4 o4' ff4 fr4 hat4 hT4 hfeed hci
          rw [List.length_append] at *
          go_wp2_with fail
          refine HFD.out.mono ?_
          rintro e W5 ⟨fv5, r5, rfl, o5, k5, d5, f5⟩
          clear HFD
          obtain ⟨ff4, fr4, hfd, hln, hft⟩ := HG4.out
          have hWz := fr4.size
          have ff5 := ff4.feed k5 (fun k hk => (d5 k hk).2) f5 hWz
          have fr5 : Fr (fun _ => False) w W5 := fr4.trans3 f5 fun k hk e => by
            rcases e with e | e
            · omega
            · have := ff4.hv k e; omega
          have hfa := feedM_app L ([], false) p
          rw [hfd] at hfa
          simp only at hfa
          obtain ⟨⟨os5, st5⟩, hf5⟩ : ∃ x, feedM st p = x := ⟨_, rfl⟩
          rw [hf5] at hfa ff5 o5
          simp only at hfa ff5 o5
          have hcnt := feedM_count (L ++ p) ([], false)
          rw [hfa] at hcnt
          simp only [List.length_append] at hcnt
          obtain ⟨A6, c6, rfl⟩ := row_slice o5
          have HO5 := Lib.hid (And.intro ff5.ob (srcLn o5))
          have HG5 := Lib.hid (And.intro ff5 (And.intro fr5 (And.intro hfa (And.intro hln (And.intro hft o5)))))
          clear ff4 fr4 hfd hln hft HG4 k5 d5 f5 ff5 fr5 hf5 hfa o5
          go_wp2_with (at_builtin; refine Hid.out ?_)
          refine Lib.hid ?_
          refine wpList_app_u rfl _ _ 27 27 rfl w.heap.size 38 i0 _ 2 24 Tryd.underlying27 hi0 hq0 hq1 hq2 rfl _ os.length (os.flatMap encL2) rfl HO5.out.1 (.slice A6 os5.length c6) os5.length (os5.flatMap encL2) rfl HO5.out.2 (by omega) (by decide) (by have := HG5.out.2.1.size; omega) ?_
          intro v6 W6 o6 f6 t6
          obtain ⟨ff5, fr5, hfa, hln, hft, o5⟩ := HG5.out
          have o6' : OwnLn w.heap.size W6 v6 (os ++ os5) := ownLn_app o6
          obtain ⟨A7, c7, ev7⟩ := row_slice o6'
          rw [List.length_append] at ev7
          subst ev7
          have ff6 := ff5.got o6' f6 t6
          have fr6 : Fr (fun _ => False) w W6 := fr5.trans3 f6 fun k hk e => by have := (ff5.ob.lt k e).1; omega
          have hall := allRef (L ++ p) _ W6 (by rw [List.length_append]; omega) (own8_at ff6.oa)
          rw [hfa] at hall
          simp only [List.length_append] at hall
          have HAL := Lib.hid hall
          have HG6 := Lib.hid (And.intro ff6 (And.intro fr6 (And.intro hfa (And.intro hln hft))))
          clear HO5 HG5 ff5 fr5 hfa hln hft o5 o6 f6 t6 o6' ff6 fr6 hall
          go_wp2_with fail
          refine HAL.out.mono ?_
          rintro e W7 ⟨v7, rfl, o7, f7⟩
          clear HAL
          obtain ⟨ff6, fr6, hfa, hln, hft⟩ := HG6.out
          have ff7 := ff6.fresh f7
          have fr7 := fr6.trans f7
          obtain ⟨A8, c8, rfl⟩ := row_slice o7
          have hsm := sameLn _ _ _ _ _ _ W7 ff7.ob o7 (by rw [List.length_append]; omega) (by rw [List.length_append]; omega)
          simp only [List.length_append, decide_true] at hsm
          have HSM := Lib.hid hsm
          have HG7 := Lib.hid (And.intro ff7 (And.intro fr7 (And.intro hfa (And.intro hln hft))))
          clear HG6 ff6 fr6 hfa hln hft o7 f7 ff7 fr7 hsm
          go_wp2_with fail
          refine HSM.out.mono ?_
          rintro e W8 ⟨rfl, f8⟩
          clear HSM
          obtain ⟨ff7, fr7, hfa, hln, hft⟩ := HG7.out
          have ff8 := ff7.fresh f8
          have fr8 := fr7.trans f8
          have HR := Lib.hid (And.intro (restFr _ _ _ W8 ff8.r) (lostFr _ _ _ W8 ff8.r))
          have hN : Hid (FF w.heap.size w1.heap.size (ps.take (i + 1)).flatten (os ++ os5) st5 (.slice B4 (ps.take (i + 1)).flatten.length d4) (.slice A7 (os ++ os5).length c7) fv5 W8 ∧ Fr (fun _ => False) w W8 ∧ feedM ([], false) (ps.take (i + 1)).flatten = (os ++ os5, st5) ∧ (ps.take (i + 1)).flatten.length ≤ 600 * (i + 1)) := by
            rw [hft]
            simp only [List.length_append]
            exact ⟨ff8, fr8, hfa, by omega⟩
          have hln2 : (ps.take (i + 1)).flatten.length = L.length + p.length := by rw [hft, List.length_append]
          have HL2 := Lib.hid hln2
          clear HG7 ff7 fr7 hfa hln hft f8 ff8 fr8 hln2
          go_wp2_with (first
            | (go_at_call 12; refine HR.out.1.mono ?_; rintro e W9 ⟨rfl, rfl⟩)
            | (go_at_call 13; refine HR.out.2.mono ?_; rintro e W9 ⟨rfl, rfl⟩))
          go_roundg gm
          case measure => omega
          case rel => exact ⟨i + 1, B4, d4, A7, c7, os ++ os5, st5, fv5, by omega, by simp, by rw [HL2.out], by simp, hN⟩
        · have h6 : ((600 : Int) < (p.length : Int)) := by omega
          clear hat hpa hcell
          go_wp2_with fail
          go_ret
          exact ⟨rfl, HX.out.2.1.below (Nat.le_refl _) fun _ _ e => e.elim⟩
  · have h20' : ((20 : Int) < (ps.length : Int)) := by omega
    go_wp2_with fail
    go_ret
    exact ⟨rfl, HF1.out.below (Nat.le_refl _) fun _ _ e => e.elim⟩
end Go.Proofs.YtaajfbbogihbnaaDoor
