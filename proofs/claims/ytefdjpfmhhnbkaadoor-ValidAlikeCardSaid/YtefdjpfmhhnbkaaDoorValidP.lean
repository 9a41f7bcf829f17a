/- ValidAlike, walked. -/
import Derived.Test.YtefdjpfmhhnbkaaDoorValidN
import Derived.Test.YtefdjpfmhhnbkaaDoorFoldI
namespace Go.Proofs.YtefdjpfmhhnbkaaDoor
open Go.RowKit

theorem Rowed.below {w w' : World} {B : Nat} (h : Rowed w) (hB : w.heap.size ≤ B) (hb : Below B w w') : Rowed w' := by
  intro i hi
  obtain ⟨s, h1, h2⟩ := h i hi
  refine ⟨s, ?_, h2⟩
  rw [← h1]
  exact hb.cell (Nat.lt_of_lt_of_le (World.block_lt_of_cell? _ _ h1) hB)

set_option maxHeartbeats 1000000 in
theorem tilde_any (s : ByteArray) (w : World) (hs : s.size ≤ 1000000) :
    Calls Tryd.prog 31 #[.string s] w fun e w' => e = .returned (.bool (inB s.data.toList 126)) ∧ w = w' := by
  go_enter Tryd.func31, Tryd.ntmps31
  go_wp2_with fail
  go_loopw [3] (fun i wr => ∃ k : Nat, k ≤ s.size ∧ i = .int .i64 k ∧ (∀ i, i < k → ∀ (hi : i < s.size), s[i] ≠ 126) ∧ wr = w) (fun i _ => s.size - (intOf i).toNat)
  case atStart => exact ⟨0, Nat.zero_le _, rfl, fun _ h => absurd h (Nat.not_lt_zero _), rfl⟩
  case round =>
    obtain ⟨k, hk, rfl, hq, rfl⟩ := hrel
    have Hq := Lib.hid hq
    clear hq
    by_cases hlt : k < s.size
    · by_cases hb : s[k] = 126
      · have hb' : ((s[k].toNat : Int) == 126) = true := by rw [hb]; rfl
        go_wp2_with fail
        go_ret
        exact ⟨ret_bool (inB_yes hlt hb), rfl⟩
      · have hb' : ((s[k].toNat : Int) == 126) = false := by
          rw [beq_eq_false_iff_ne]; intro e; exact hb (UInt8.toNat_inj.mp (by have : (126 : UInt8).toNat = 126 := rfl; omega))
        go_wp2_with fail
        exact ⟨⟨k + 1, by omega, by push_cast; rfl, fun i h1 h2 => (by
          by_cases e : i = k
          · subst e; exact hb
          · exact Hq.out i (by omega) h2), by simp⟩, by simp only [intOf]; omega⟩
    · obtain rfl : k = s.size := by omega
      go_wp2_with fail
      go_ret
      exact ⟨ret_bool (inB_no (Nat.le_refl _) Hq.out), rfl⟩

theorem nickAt_fold0 (b : UInt8) : (decide (b = 126) || (nickAt 0 b == nickAt 0 (foldB b))) = true := all256 (p := fun b => decide (b = 126) || (nickAt 0 b == nickAt 0 (foldB b))) (by kernel_rfl) b
theorem nickAt_fold1 (b : UInt8) : (decide (b = 126) || (nickAt 1 b == nickAt 1 (foldB b))) = true := all256 (p := fun b => decide (b = 126) || (nickAt 1 b == nickAt 1 (foldB b))) (by kernel_rfl) b
theorem nickAt_fold (i : Nat) {b : UInt8} (h : b ≠ 126) : nickAt i b = nickAt i (foldB b) := by
  by_cases e : i = 0
  · subst e; have := nickAt_fold0 b; simpa [h] using this
  · have := nickAt_fold1 b
    have e1 : ∀ b, nickAt i b = nickAt 1 b := fun b => by unfold nickAt; rw [decide_eq_true e]; rfl
    rw [e1 b, e1 (foldB b)]; simpa [h] using this
theorem nick_tilde {s : ByteArray} (h : NickP s) : inB s.data.toList 126 = false := by
  symm
  refine inB_no (Nat.le_refl _) fun i _ hi e => ?_
  have := h.2 i hi
  rw [e] at this
  unfold nickAt at this
  rw [show letterB 126 = false from rfl, show signB 126 = false from rfl, show digitB 126 = false from rfl, show decide ((126 : UInt8).toNat = 45) = false from rfl] at this
  simp at this
theorem nick_fold {a b : ByteArray} (h : foldL a.data.toList = foldL b.data.toList) (ha : inB a.data.toList 126 = false) (hb : inB b.data.toList 126 = false) (hn : NickP a) : NickP b := by
  have hl : a.size = b.size := by
    have := congrArg List.length h
    simpa using this
  have no : ∀ {s : ByteArray}, inB s.data.toList 126 = false → ∀ i (hi : i < s.size), s[i] ≠ 126 := by
    intro s hs i hi e
    have := inB_yes hi e
    rw [hs] at this; cases this
  refine ⟨by rw [← hl]; exact hn.1, fun i hi => ?_⟩
  have hi' : i < a.size := by omega
  have := hn.2 i hi'
  rw [nickAt_fold i (no ha i hi')] at this
  rw [nickAt_fold i (no hb i hi)]
  have e : foldB a[i] = foldB b[i] := by
    have h0 : (foldL a.data.toList)[i]? = (foldL b.data.toList)[i]? := by rw [h]
    unfold foldL at h0
    rw [List.getElem?_map, List.getElem?_map, List.getElem?_eq_getElem (by simpa using hi'), List.getElem?_eq_getElem (by simpa using hi)] at h0
    exact Option.some.inj h0
  rw [← e]; exact this
theorem nick_chan {s : ByteArray} (h : NickP s) : ¬ ChanP s := by
  rintro ⟨_, ⟨h0, e⟩, _⟩
  have := h.2 0 h0
  have e' : s[0] = 35 := UInt8.toNat_inj.mp e
  rw [e'] at this
  revert this; decide

set_option maxHeartbeats 2000000 in
theorem validAlike_walk (a b : ByteArray) (w : World) (_ha : a.size ≤ maxLen) (_hb : b.size ≤ maxLen) (hr : Rowed w) :
    Calls Tryd.prog 6 #[.string a, .string b] w fun e w' => e = .returned (.bool true) ∧ Below w.heap.size w w' := by
  by_cases h1 : 100 < a.size
  · go_enter Tryd.func6, Tryd.ntmps6
    go_wp2_with (go_at_call 13; refine (awake3 _ (by assumption)).mono ?_; rintro e w' ⟨rfl, rfl⟩)
    go_ret
    exact ⟨rfl, Below.refl _ _⟩
  by_cases h2 : 100 < b.size
  · go_enter Tryd.func6, Tryd.ntmps6
    go_wp2_with (go_at_call 13; refine (awake3 _ (by assumption)).mono ?_; rintro e w' ⟨rfl, rfl⟩)
    go_ret
    exact ⟨rfl, Below.refl _ _⟩
  have ha : a.size ≤ 1000000 := by omega
  have hb : b.size ≤ 1000000 := by omega
  have T1 := Lib.hid (show dec (NickP a) = true → inB a.data.toList 126 = false from fun h => nick_tilde (dec_iff.1 h))
  have T2 := Lib.hid (show sameF a.data.toList b.data.toList = true → inB a.data.toList 126 = false → inB b.data.toList 126 = false → dec (NickP a) = dec (NickP b) from fun h h1 h2 => dec_of (by
    rw [dec_iff]; exact ⟨nick_fold (sameF_iff.1 h) h1 h2, nick_fold (sameF_iff.1 h).symm h2 h1⟩))
  have T3 := Lib.hid (show dec (NickP a) = true → dec (ChanP a) = false from fun h => (dec_no (nick_chan (dec_iff.1 h))).symm)
  go_enter Tryd.func6, Tryd.ntmps6
  go_wp2_with (first | (go_at_call 13; refine (awake3 _ (by assumption)).mono ?_; rintro e w' ⟨rfl, rfl⟩) | (go_at_call 30; refine (refsame _ _ _ (by assumption) (by assumption)).mono ?_; rintro e w1 ⟨rfl, hw1⟩; have hr1 := hr.below (Nat.le_refl _) hw1) | (go_at_call 14; refine (nick_v _ _ (by assumption) (by assumption)).mono ?_; rintro e w' ⟨rfl, rfl⟩) | (go_at_call 16; refine (chan_v _ _ (by assumption) (by assumption)).mono ?_; rintro e w' ⟨rfl, rfl⟩) | (go_at_call 31; refine (tilde_any _ _ (by assumption)).mono ?_; rintro e w' ⟨rfl, rfl⟩))
  all_goals go_ret
  all_goals refine ⟨ret_bool ?_, by assumption⟩
  all_goals try rfl
  all_goals (have t1 := T1.out; have t2 := T2.out; have t3 := T3.out; clear T1 T2 T3)
  all_goals (have hsf : sameF a.data.toList b.data.toList = true := by have h9 := (‹(_ ∧ _) ∧ (!sameF a.data.toList b.data.toList) = false›).2; simpa only [Bool.not_eq_false'] using h9)
  all_goals (have t4 := t2 hsf; clear t2 hsf)
  all_goals (generalize dec (NickP a) = na at *; generalize dec (NickP b) = nb at *; generalize dec (ChanP a) = ca at *; generalize inB a.data.toList 126 = ia at *; generalize inB b.data.toList 126 = ib at *)
  all_goals (cases na <;> cases nb <;> cases ca <;> cases ia <;> cases ib <;> first | rfl | contradiction | exact Bool.noConfusion (t1 rfl) | exact Bool.noConfusion (t3 rfl) | exact Bool.noConfusion (t4 rfl rfl) | (exfalso; simp at *))
end Go.Proofs.YtefdjpfmhhnbkaaDoor
