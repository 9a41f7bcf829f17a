/- Layer 5: the document's All, walked. -/
import Derived.Test.YtaajfbbogihbnaaDoorFrF
namespace Go.Proofs.YtaajfbbogihbnaaDoor
set_option linter.unusedVariables false
set_option linter.unusedSimpArgs false
open Go Go.RowKit Go.Lib

set_option maxRecDepth 1000000 in
set_option maxHeartbeats 8000000 in
theorem allRef (l : List UInt8) (bv : Value) (w : World) (hl : l.length ≤ 1000000) (hb : At8 w bv l) :
    Calls Tryd.prog 10 #[bv] w fun e w' => ∃ v, e = .returned (.tuple #[v, .int .i64 (feedM ([], false) l).2.1.length, .bool (feedM ([], false) l).2.2]) ∧ OwnLn w.heap.size w' v (feedM ([], false) l).1 ∧ Fr (fun _ => False) w w' := by
  obtain ⟨i0, hi0, hz0, hz1, hz2⟩ := info_parts Tryd.infoLn
  obtain ⟨A, c, rfl, h1, h2, h3, h4⟩ := hb
  have H := Lib.hid (And.intro h2 (And.intro h3 h4))
  clear h2 h3 h4
  go_enter Tryd.func10, Tryd.ntmps10
  go_wp2_with fail
  go_loopg [5, 6, 7] l.length (fun g s5 s6 s7 wr => ∃ (i f : Nat) (A5 : Option Addr) (c5 : Nat) (os : List FSt), i + g = l.length ∧ s7 = .int .i64 i ∧ s6 = .int .i64 f ∧ f ≤ i ∧ s5 = .slice A5 os.length c5 ∧ os.length ≤ i ∧
    Hid (feedM ([], false) (l.take i) = (os, stAt l f i) ∧ OwnLn w.heap.size wr (.slice A5 os.length c5) os ∧ Fr (fun _ => False) w wr))
  case atStart => exact ⟨0, 0, none, 0, [], by omega, rfl, rfl, Nat.le_refl _, rfl, Nat.le_refl _, by rw [stAt_self]; rfl, ownLn_nil _ _, Fr.refl _ _⟩
  case round =>
    obtain ⟨i, f, A5, c5, os, hig, rfl, rfl, hfi, rfl, hos, HX⟩ := hrel
    cases gk with
    | zero =>
      obtain rfl : i = l.length := by omega
      have hiz : ¬ ((l.length : Int) < (l.length : Int)) := by omega
      have hw : IntKind.i64.wrap ((l.length : Int) - (f : Int)) = (l.length : Int) - (f : Int) := IntWalk.i64_in _ (by omega)
      have hq := HX.out.1
      rw [List.take_length] at hq
      have HQ := Lib.hid hq
      clear hq
      by_cases hg : 510 < l.length - f
      · have hg2 : (510 : Int) < (l.length : Int) - (f : Int) := by omega
        have HG := Lib.hid hg
        clear hg
        go_wp2_with fail
        refine bodyPost_ret (results_tmp3 rfl _ _ _) rfl ?_
        refine ⟨_, ?_, by rw [HQ.out]; exact HX.out.2.1, HX.out.2.2⟩
        rw [HQ.out]
        unfold stAt
        rw [if_pos HG.out]
        rfl
      · have hg2 : ¬ ((510 : Int) < (l.length : Int) - (f : Int)) := by omega
        have HG := Lib.hid hg
        clear hg
        go_wp2_with fail
        refine bodyPost_ret (results_tmp3 rfl _ _ _) rfl ?_
        refine ⟨_, ?_, by rw [HQ.out]; exact HX.out.2.1, HX.out.2.2⟩
        rw [HQ.out]
        unfold stAt
        rw [if_neg HG.out]
        have e : ((l.take l.length).drop f).length = l.length - f := by simp
        simp only [e, Int.ofNat_sub hfi]
        rfl
    | succ gm =>
      have hi : i < l.length := by omega
      have hiz : (i : Int) < (l.length : Int) := by omega
      have hwi : IntKind.i64.wrap ((i : Int) + 1) = (i : Int) + 1 := IntWalk.i64_in _ (by omega)
      have hl4 : Lie8 wr A l := lie8_kept H.out.2.2 HX.out.2.2 fun _ _ _ e => e
      obtain ⟨g, o, rfl, hgl, hc⟩ := hl4 (by omega)
      have hci := hc i hi
      obtain ⟨x, hx⟩ : ∃ x : UInt8, l[i] = x := ⟨_, rfl⟩
      rw [hx] at hci
      unfold enc8 at hci
      have HL := Lib.hid (And.intro hc (And.intro hgl hx))
      clear hc hgl hx hl4
      by_cases he : isEnd x
      · have hw : IntKind.i64.wrap ((i : Int) - (f : Int)) = (i : Int) - (f : Int) := IntWalk.i64_in _ (by omega)
        have hq := feed_take_end hi HX.out.1 (by rw [HL.out.2.2]; exact he)
        have HQ := Lib.hid hq
        clear hq
        have hor : wr.ownsRow w.heap.size 38 2 (.slice A5 os.length c5) os.length (os.flatMap encL2) := HX.out.2.1
        have HO := Lib.hid hor
        clear hor
        have hwz : w.heap.size ≤ wr.heap.size := HX.out.2.2.size
        obtain ⟨p1, p2, hp⟩ : ∃ p1 p2 : Bool, ((x.toNat : Int) != 13) = p1 ∧ ((x.toNat : Int) != 10) = p2 := ⟨_, _, rfl, rfl⟩
        obtain ⟨hp1, hp2⟩ := hp
        have hpp : (p1 && p2) = false := by
          rw [← hp1, ← hp2]
          rcases he with e | e <;> subst e <;> rfl
        clear he
        by_cases hg : 510 < i - f
        · have hg2 : (510 : Int) < (i : Int) - (f : Int) := by omega
          have HG := Lib.hid (out_long (l := l) hg)
          clear hg
          cases p1 <;> cases p2 <;> first | (exact absurd hpp (by decide)) | skip
          all_goals
            clear hpp
            go_wp2_with (at_builtin; refine Hid.out ?_)
            refine Lib.hid ?_
            refine wpList_one_t rfl _ _ 27 rfl w.heap.size 38 i0 _ 2 24 Tryd.underlying27 hi0 hz0 hz1 hz2 rfl (by decide) _ _ _ rfl HO.out #[.string { data := #[] }, .bool true] _ rfl rfl rfl (by intro u hu; simp at hu; rcases hu with rfl | rfl <;> rfl) (by omega) (by decide) hwz ?_
            intro v1 W2 o1 f1 t1
            obtain ⟨A1, n1, rfl⟩ := row_slice o1
            have o1' : OwnLn w.heap.size W2 (.slice A1 (os.length + 1) n1) (os ++ [([], true)]) := ownLn_snoc o1
            have hN : Hid (feedM ([], false) (l.take (i + 1)) = (os ++ [([], true)], stAt l (i + 1) (i + 1)) ∧ OwnLn w.heap.size W2 (.slice A1 (os ++ [(([] : List UInt8), true)]).length n1) (os ++ [([], true)]) ∧ Fr (fun _ => False) w W2) :=
              ⟨by rw [HQ.out, HG.out, stAt_self], by rw [List.length_append]; exact o1', HX.out.2.2.trans3 f1 fun k hk e => by have := (HX.out.2.1.lt k e).1; omega⟩
            clear o1 f1 t1 o1'
            go_wp2_with fail
            go_roundg gm
            case measure => omega
            case rel => exact ⟨i + 1, i + 1, A1, n1, os ++ [([], true)], by omega, by simp, by simp, Nat.le_refl _, by simp, by simp; omega, hN⟩
        · have hg2 : ¬ ((510 : Int) < (i : Int) - (f : Int)) := by omega
          by_cases hlt : f < i
          · have hlt2 : (f : Int) < (i : Int) := by omega
            have HG := Lib.hid (out_some (l := l) hg hlt (by omega))
            clear hg
            obtain ⟨A2, hsl, hat⟩ := run_mid8 (A := some ⟨g, o, none⟩) (c := c) (l := l) f i hfi (by omega) h1 (by omega) H.out.1 (fun e => by cases e)
            have hcv := conv_at8 (hat wr fun _ => ⟨g, o, rfl, HL.out.2.1, HL.out.1⟩)
            have HS := Lib.hid hlt
            clear hat hfi hlt
            cases p1 <;> cases p2 <;> first | (exact absurd hpp (by decide)) | skip
            all_goals
              clear hpp
              go_wp2_with (at_builtin; refine Hid.out ?_)
              refine Lib.hid ?_
              refine wpList_one_t rfl _ _ 27 rfl w.heap.size 38 i0 _ 2 24 Tryd.underlying27 hi0 hz0 hz1 hz2 rfl (by decide) _ _ _ rfl HO.out #[.string (bs ((l.take i).drop f)), .bool false] _ rfl rfl rfl (by intro u hu; simp at hu; rcases hu with rfl | rfl <;> rfl) (by omega) (by decide) hwz ?_
              intro v1 W2 o1 f1 t1
              obtain ⟨A1, n1, rfl⟩ := row_slice o1
              have o1' : OwnLn w.heap.size W2 (.slice A1 (os.length + 1) n1) (os ++ [((l.take i).drop f, false)]) := ownLn_snoc o1
              have hN : Hid (feedM ([], false) (l.take (i + 1)) = (os ++ [((l.take i).drop f, false)], stAt l (i + 1) (i + 1)) ∧ OwnLn w.heap.size W2 (.slice A1 (os ++ [((l.take i).drop f, false)]).length n1) (os ++ [((l.take i).drop f, false)]) ∧ Fr (fun _ => False) w W2) :=
                ⟨by rw [HQ.out, HG.out, stAt_self], by rw [List.length_append]; exact o1', HX.out.2.2.trans3 f1 fun k hk e => by have := (HX.out.2.1.lt k e).1; omega⟩
              clear o1 f1 t1 o1' hcv hsl
              go_wp2_with fail
              go_roundg gm
              case measure => omega
              case rel => exact ⟨i + 1, i + 1, A1, n1, os ++ [((l.take i).drop f, false)], by omega, by simp, by simp, Nat.le_refl _, by simp, by simp; omega, hN⟩
          · obtain rfl : f = i := by omega
            have hlt2 : ¬ ((f : Int) < (f : Int)) := by omega
            have hN : Hid (feedM ([], false) (l.take (f + 1)) = (os, stAt l (f + 1) (f + 1)) ∧ OwnLn w.heap.size wr (.slice A5 os.length c5) os ∧ Fr (fun _ => False) w wr) :=
              ⟨by rw [HQ.out, out_none, stAt_self, List.append_nil], HX.out.2.1, HX.out.2.2⟩
            cases p1 <;> cases p2 <;> first | (exact absurd hpp (by decide)) | skip
            all_goals
              clear hpp
              go_wp2_with fail
              go_roundg gm
              case measure => omega
              case rel => exact ⟨f + 1, f + 1, A5, c5, os, by omega, by simp, by simp, Nat.le_refl _, rfl, by omega, hN⟩
      · have hp1 : ((x.toNat : Int) != 13) = true := by
          rw [bne_iff_ne]; intro e; exact he (.inl (by apply UInt8.toNat_inj.1; show x.toNat = 13; omega))
        have hp2 : ((x.toNat : Int) != 10) = true := by
          rw [bne_iff_ne]; intro e; exact he (.inr (by apply UInt8.toNat_inj.1; show x.toNat = 10; omega))
        have hq := feed_take_more hi HX.out.1 (by rw [HL.out.2.2]; exact he)
        rw [stAt_more l f i hfi hi] at hq
        have HQ := Lib.hid hq
        clear hq he
        go_wp2_with fail
        go_roundg gm
        case measure => omega
        case rel => exact ⟨i + 1, f, A5, c5, os, by omega, by simp, rfl, by omega, rfl, by omega, HQ.out, HX.out.2.1, HX.out.2.2⟩
end Go.Proofs.YtaajfbbogihbnaaDoor
