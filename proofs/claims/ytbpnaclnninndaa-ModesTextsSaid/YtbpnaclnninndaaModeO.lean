/- Layer 18: the walk of ModesTexts. -/
import Derived.Test.YtbpnaclnninndaaModeN
import Derived.Deep.RegionHeld3
namespace Go.Proofs.Ytbpnaclnninndaa
set_option linter.unusedVariables false
set_option linter.unusedSimpArgs false
open Go.RowKit Go.Shelf

theorem lists_keep (B0 : Nat) (on : Bool) (ch : UInt8) (ag : ByteArray) (W : World) (hB : B0 ≤ W.heap.size) :
    Calls Try.prog 14 #[.agg #[.bool on, .int .u8 ch.toNat, .string ag]] W fun e w' => e = .returned (.bool (listsB (on, ch, ag))) ∧ Below B0 W w' ∧ B0 ≤ w'.heap.size ∧ ∀ b o, b < B0 → w'.cell? ⟨b, o, none⟩ = W.cell? ⟨b, o, none⟩ :=
  (lists_v (on, ch, ag) W).mono fun e w' ⟨he, h⟩ => ⟨he, h.mono hB, Nat.le_trans hB h.size, fun b o hb => (h.mono hB).cell (p := ⟨b, o, none⟩) hb⟩

set_option maxRecDepth 100000 in
set_option maxHeartbeats 4000000 in
theorem modesTexts_walk (A : Option Addr) (l : List Chg) (c : Nat) (w : World) (hl : l.length ≤ maxLen) (hs : ∀ x ∈ l, x.2.2.size ≤ maxLen) (hr : RowC w A l) :
    Calls Try.prog 4 #[.slice A l.length c] w fun e w' => e = .returned (.bool true) ∧ Below w.heap.size w w' := by
  unfold maxLen at hl hs
  have HR := Lib.hid hr
  have HSZ := Lib.hid hs
  clear hr hs
  by_cases h60 : 60 < l.length
  · have p1 : (l.length : Int) > 60 := by omega
    clear h60
    go_enter Try.func4, Try.ntmps4
    go_wp2_with fail
    go_at_call 7
    refine (awake18 _).mono ?_
    rintro e w1 ⟨rfl, q1⟩
    have Q1 := Lib.hid q1
    clear q1
    go_wp2_with fail
    go_ret
    exact ⟨rfl, Q1.out⟩
  · have p1 : ¬ ((l.length : Int) > 60) := by omega
    have hT : ∀ W, RowC W A l → Calls Try.prog 16 #[.slice A l.length c] W (GivesT W (textM l)) := fun W h => text_v A l c W (by omega) h
    have hTr : ∀ W, RowC W A l → Calls Try.prog 17 #[.slice A l.length c] W (GivesT W (textM l)) := fun W h => text_r A l c W (by omega) h
    have hlen := textM_len l
    obtain ⟨T, hT0⟩ : ∃ T, textM l = T := ⟨_, rfl⟩
    rw [hT0] at hT hTr hlen
    clear h60 hT0
    go_enter Try.func4, Try.ntmps4
    go_wp2_with fail
    go_at_call 7
    refine (awake18 _).mono ?_
    rintro e w1 ⟨rfl, q1⟩
    have Q1 := Lib.hid q1
    clear q1
    go_wp2_with fail
    go_loopw [3] (fun i wr => ∃ k : Nat, i = .int .i64 k ∧ k ≤ l.length ∧ Hid (Below w.heap.size w wr)) (fun i _ => l.length - (intOf i).toNat)
    case atStart => exact ⟨0, rfl, Nat.zero_le _, Q1⟩
    case round =>
      obtain ⟨k, rfl, hk, HQ⟩ := hrel
      by_cases hlt : k < l.length
      · obtain ⟨g, o, rfl, hcell⟩ := HR.out (by omega)
        have hsz := HSZ.out l[k] (List.getElem_mem hlt)
        have hg := lt_of_cell (hcell k hlt).1
        have hk3 := hcell k hlt
        rw [← HQ.out.cell (p := ⟨g, o + k * 3, none⟩) hg, ← HQ.out.cell (p := ⟨g, o + k * 3 + 1, none⟩) hg, ← HQ.out.cell (p := ⟨g, o + k * 3 + 2, none⟩) hg] at hk3
        obtain ⟨⟨on, ch, ag⟩, hx⟩ : ∃ x, l[k] = x := ⟨_, rfl⟩
        rw [hx] at hk3 hsz
        obtain ⟨c0, c1, c2⟩ := hk3
        simp only at c0 c1 c2 hsz
        have hwz := HQ.out.size
        have p2 : (k : Int) < (l.length : Int) := by omega
        clear hx hcell
        by_cases hbig : 60 < ag.size
        · have p3 : (ag.size : Int) > 60 := by omega
          go_wp2_with fail
          go_ret
          exact ⟨rfl, HQ.out⟩
        · have p3 : ¬ ((ag.size : Int) > 60) := by omega
          have ht : ∀ W, Calls Try.prog 10 #[.int .u8 ↑ch.toNat, .bool on] W fun e w' => e = .returned (.bool (takesB ch on)) ∧ W = w' := fun W => takes_b _ _ W
          have htr : ∀ W, Calls Try.prog 13 #[.int .u8 ↑ch.toNat, .bool on] W fun e w' => e = .returned (.bool (takesB ch on)) ∧ W = w' := fun W => takes_r _ _ W
          obtain ⟨tb, htb⟩ : ∃ tb, takesB ch on = tb := ⟨_, rfl⟩
          rw [htb] at ht htr
          clear htb hbig
          have hLk : ∀ W, w.heap.size ≤ W.heap.size → Calls Try.prog 14 #[.agg #[.bool on, .int .u8 ch.toNat, .string ag]] W fun e w' => e = .returned (.bool (listsB (on, ch, ag))) ∧ Below w.heap.size W w' ∧ w.heap.size ≤ w'.heap.size ∧ ∀ b o, b < w.heap.size → w'.cell? ⟨b, o, none⟩ = W.cell? ⟨b, o, none⟩ := fun W h => lists_keep _ _ _ _ W h
          by_cases h98 : ch = 98
          · have q98 : ((ch.toNat : Int) == 98) = true := by rw [h98]; rfl
            by_cases hae : ag.size = 0
            · have e1 : ag.toList = [] := by have := str_em hae; rwa [List.isEmpty_iff] at this
              have hli : listsB (on, ch, ag) = true := by unfold listsB; simp [h98, e1]
              rw [hli] at hLk
              clear hli h98 hae
              go_wp2_with fail
              first | (go_region_held3 (fun w' => w'.cell? ⟨g, o + k * 3, none⟩ = some (.bool on) ∧ w'.cell? ⟨g, o + k * 3 + 1, none⟩ = some (.int .u8 ch.toNat) ∧ w'.cell? ⟨g, o + k * 3 + 2, none⟩ = some (.string ag) ∧ w.heap.size ≤ w'.heap.size) (go_keep)
                (first | (go_at_call 10; refine (ht _).mono ?_; rintro e w' ⟨rfl, rfl⟩) | (go_at_call 13; refine (htr _).mono ?_; rintro e w' ⟨rfl, rfl⟩) | (go_at_call 14; refine (hLk _ ?_).mono ?_; (first | assumption | simp [*]); rintro e w2 ⟨rfl, q2, q3, q4⟩))) | fail
              all_goals
                have Q2 := Lib.hid (HQ.out.drew.trans q2)
                clear q2 q4
                go_wp2_with fail
                go_roundw
                case rel => exact ⟨k + 1, by go_num, by omega, Q2⟩
                case measure => simp [intOf]; omega
            · have e1 : ag.toList.isEmpty = false := str_ne (by omega)
              have e2 : (ag.toList == []) = false := by
                rw [beq_eq_false_iff_ne]; intro e; rw [e] at e1; cases e1
              have hli : listsB (on, ch, ag) = false := by unfold listsB; rw [e1, Bool.and_false]
              rw [hli] at hLk
              clear hli h98 hae
              go_wp2_with fail
              first | (go_region_held3 (fun w' => w'.cell? ⟨g, o + k * 3, none⟩ = some (.bool on) ∧ w'.cell? ⟨g, o + k * 3 + 1, none⟩ = some (.int .u8 ch.toNat) ∧ w'.cell? ⟨g, o + k * 3 + 2, none⟩ = some (.string ag) ∧ w.heap.size ≤ w'.heap.size) (go_keep)
                (first | (go_at_call 10; refine (ht _).mono ?_; rintro e w' ⟨rfl, rfl⟩) | (go_at_call 13; refine (htr _).mono ?_; rintro e w' ⟨rfl, rfl⟩) | (go_at_call 14; refine (hLk _ ?_).mono ?_; (first | assumption | simp [*]); rintro e w2 ⟨rfl, q2, q3, q4⟩))) | fail
              all_goals
                have Q2 := Lib.hid (HQ.out.drew.trans q2)
                clear q2 q4
                go_wp2_with fail
                go_roundw
                case rel => exact ⟨k + 1, by go_num, by omega, Q2⟩
                case measure => simp [intOf]; omega
          · have q98 : ((ch.toNat : Int) == 98) = false := by
              rw [beq_eq_false_iff_ne]; intro e; exact h98 (UInt8.toNat_inj.mp (by have : (98 : UInt8).toNat = 98 := rfl; omega))
            have hli : listsB (on, ch, ag) = false := by unfold listsB; rw [beq_eq_false_iff_ne.mpr h98, Bool.false_and]
            rw [hli] at hLk
            clear hli h98
            go_wp2_with fail
            first | (go_region_held3 (fun w' => w'.cell? ⟨g, o + k * 3, none⟩ = some (.bool on) ∧ w'.cell? ⟨g, o + k * 3 + 1, none⟩ = some (.int .u8 ch.toNat) ∧ w'.cell? ⟨g, o + k * 3 + 2, none⟩ = some (.string ag) ∧ w.heap.size ≤ w'.heap.size) (go_keep)
              (first | (go_at_call 10; refine (ht _).mono ?_; rintro e w' ⟨rfl, rfl⟩) | (go_at_call 13; refine (htr _).mono ?_; rintro e w' ⟨rfl, rfl⟩) | (go_at_call 14; refine (hLk _ ?_).mono ?_; (first | assumption | simp [*]); rintro e w2 ⟨rfl, q2, q3, q4⟩))) | fail
            all_goals
              have Q2 := Lib.hid (HQ.out.drew.trans q2)
              clear q2 q4
              go_wp2_with fail
              go_roundw
              case rel => exact ⟨k + 1, by go_num, by omega, Q2⟩
              case measure => simp [intOf]; omega
      · obtain rfl : k = l.length := by omega
        have p2 : ¬ ((l.length : Int) < (l.length : Int)) := by omega
        go_wp2_with fail
        go_at_call 16
        refine (hT _ (HR.out.kept HQ.out)).mono ?_
        rintro e w3 ⟨A3, c3, rfl, hc3, hr3, q3⟩
        have Q3 : Hid (Below w.heap.size w w3 ∧ RowT w3 A3 T) := ⟨bjn HQ.out HQ.out.size q3, hr3⟩
        clear hT q3 hr3
        go_wp2_with fail
        go_at_call 17
        refine (hTr _ (HR.out.kept Q3.out.1)).mono ?_
        rintro e w4 ⟨A4, c4, rfl, hc4, hr4, q4⟩
        have hs := texts_any A3 A4 T T c3 c4 w4 (by omega) (Q3.out.2.kept q4) hr4
        rw [decide_eq_true rfl] at hs
        have Q4 := Lib.hid (bjn Q3.out.1 Q3.out.1.size q4)
        clear hTr hr4 q4
        go_wp2_with fail
        go_at_call 15
        refine hs.mono ?_
        rintro e w5 ⟨rfl, h5⟩
        have Q5 := Lib.hid (bjn Q4.out Q4.out.size (below_of_drew h5))
        clear hs h5
        go_wp2_with fail
        go_ret
        exact ⟨rfl, Q5.out⟩
end Go.Proofs.Ytbpnaclnninndaa
