/- FoldOrder, FoldHalves: walked from the contracts. -/
import Derived.Test.YtjlgfnekcideaaaFoldK
namespace Go.Proofs.Ytjlgfnekcideaaa
open Go.RowKit

theorem app_toList (a b : ByteArray) : (a ++ b).data.toList = a.data.toList ++ b.data.toList := by simp

set_option maxHeartbeats 1000000 in
theorem order_walk (a b c : ByteArray) (ha : a.size ≤ 60) (hb : b.size ≤ 60) (hc : c.size ≤ 60) (w : World) : Calls Try.prog 5 #[.string a, .string b, .string c] w fun e w' => e = .returned (.bool true) ∧ Below w.heap.size w w' := by
  have ha1 : a.size ≤ 1000000 := by omega
  have hb1 : b.size ≤ 1000000 := by omega
  have hc1 : c.size ≤ 1000000 := by omega
  have hA : decide ((60 : Int) < (a.size : Int)) = false := by simp; omega
  have hB : decide ((60 : Int) < (b.size : Int)) = false := by simp; omega
  have hC : decide ((60 : Int) < (c.size : Int)) = false := by simp; omega
  have hca : (c ++ a).size ≤ 1000000 := by simp; omega
  have hcb : (c ++ b).size ≤ 1000000 := by simp; omega
  have hab : (a ++ b).size ≤ 1000000 := by simp; omega
  have hta : (bs (foldL a.data.toList) ++ b).size ≤ 1000000 := by simp; omega
  have hn1 : (bs (foldL a.data.toList)).size ≤ 60 := by simp; omega
  obtain ⟨x, hx⟩ : ∃ x, cmpF a.data.toList b.data.toList = x := ⟨_, rfl⟩
  obtain ⟨y, hy⟩ : ∃ y, cmpF b.data.toList c.data.toList = y := ⟨_, rfl⟩
  obtain ⟨z, hz⟩ : ∃ z, cmpF a.data.toList c.data.toList = z := ⟨_, rfl⟩
  have hyx : cmpF b.data.toList a.data.toList = -x := by rw [cmpF_anti, hx]
  have hxc : cmpF (c ++ a).data.toList (c ++ b).data.toList = x := by rw [app_toList, app_toList, cmpF_app, hx]
  have hp1 : sameF ((a ++ b).data.toList.take a.size) a.data.toList = true := by
    rw [app_toList]; exact sameF_take _ _
  have hp2 : sameF ((bs (foldL a.data.toList) ++ b).data.toList.take a.size) a.data.toList = true := by
    rw [app_toList, bs_toList, List.take_left' (by simp)]
    exact sameF_iff.2 (foldL_idem _)
  obtain ⟨s, hs⟩ : ∃ s, sameF a.data.toList b.data.toList = s := ⟨_, rfl⟩
  have hsx : (x == 0) = s := by rw [← hs, ← hx]; exact sameF_cmp _ _
  have hzz : x ≤ 0 → y ≤ 0 → z ≤ 0 := by rw [← hx, ← hy, ← hz]; exact cmpF_trans
  have hlen : x = 0 → a.size = b.size := by intro h; rw [h] at hx; simpa using cmpF_zero_len hx
  have bx := cmpF_bd a.data.toList b.data.toList
  have by' := cmpF_bd b.data.toList c.data.toList
  have bz := cmpF_bd a.data.toList c.data.toList
  rw [hx] at bx
  rw [hy] at by'
  rw [hz] at bz
  have Hx := Lib.hid hx
  have Hy := Lib.hid hy
  have Hz := Lib.hid hz
  have Hyx := Lib.hid hyx
  have Hxc := Lib.hid hxc
  have Hp1 := Lib.hid hp1
  have Hp2 := Lib.hid hp2
  have Hs := Lib.hid hs
  have Hzz := Lib.hid hzz
  have Hlen := Lib.hid hlen
  clear hx hy hz hyx hxc hp1 hp2 hs hzz hlen
  obtain ⟨bx0, bx1⟩ := bx
  obtain ⟨by0, by1⟩ := by'
  obtain ⟨bz0, bz1⟩ := bz
  by_cases h0 : x = 0
  · subst h0
    have hl := Hlen.out rfl
    have hlb : ((a.size : Int) != (b.size : Int)) = false := by rw [hl]; simp
    obtain rfl : s = true := by rw [← hsx]; rfl
    clear hl hsx
    by_cases h1 : y ≤ 0
    · have hz0 := Hzz.out (Int.le_refl _) h1
      go_enter Try.func5, Try.ntmps5
      go_wp2_with (first
        | (go_at_call 9; refine (awake01 _).mono ?_; rintro e w1 ⟨rfl, q1⟩)
        | (go_at_call 14; refine (compare_any _ _ _ (by assumption) (by assumption)).mono ?_; rintro e w2 ⟨rfl, n2, rfl⟩; (try rw [Hx.out]); (try rw [Hy.out]); (try rw [Hz.out]); (try rw [Hyx.out]); (try rw [Hxc.out]))
        | (go_at_call 12; refine (same_any _ _ _ (by assumption) (by assumption)).mono ?_; rintro e w3 ⟨rfl, n3, rfl⟩; rw [Hs.out])
        | (go_at_call 16; refine (prefix_any _ _ _ (by assumption) (by assumption)).mono ?_; rintro e w3 ⟨rfl, n3, rfl⟩; (try rw [Hp1.out]); (try rw [Hp2.out]))
        | (go_at_call 10; refine (text_any _ _ ha1).mono ?_; rintro e w4 ⟨rfl, q4⟩))
      go_ret
      exact ⟨rfl, below_dn (bnext (below_dn q1 _) q4) _⟩
    · have h2 : 0 < y := by omega
      go_enter Try.func5, Try.ntmps5
      go_wp2_with (first
        | (go_at_call 9; refine (awake01 _).mono ?_; rintro e w1 ⟨rfl, q1⟩)
        | (go_at_call 14; refine (compare_any _ _ _ (by assumption) (by assumption)).mono ?_; rintro e w2 ⟨rfl, n2, rfl⟩; (try rw [Hx.out]); (try rw [Hy.out]); (try rw [Hz.out]); (try rw [Hyx.out]); (try rw [Hxc.out]))
        | (go_at_call 12; refine (same_any _ _ _ (by assumption) (by assumption)).mono ?_; rintro e w3 ⟨rfl, n3, rfl⟩; rw [Hs.out])
        | (go_at_call 16; refine (prefix_any _ _ _ (by assumption) (by assumption)).mono ?_; rintro e w3 ⟨rfl, n3, rfl⟩; (try rw [Hp1.out]); (try rw [Hp2.out]))
        | (go_at_call 10; refine (text_any _ _ ha1).mono ?_; rintro e w4 ⟨rfl, q4⟩))
      go_ret
      exact ⟨rfl, below_dn (bnext (below_dn q1 _) q4) _⟩
  · have hlb : s = false := by rw [← hsx, beq_eq_false_iff_ne]; exact h0
    subst hlb
    by_cases h3 : x = 1
    · subst h3
      clear hsx h0
      go_enter Try.func5, Try.ntmps5
      go_wp2_with (first
        | (go_at_call 9; refine (awake01 _).mono ?_; rintro e w1 ⟨rfl, q1⟩)
        | (go_at_call 14; refine (compare_any _ _ _ (by assumption) (by assumption)).mono ?_; rintro e w2 ⟨rfl, n2, rfl⟩; (try rw [Hx.out]); (try rw [Hy.out]); (try rw [Hz.out]); (try rw [Hyx.out]); (try rw [Hxc.out]))
        | (go_at_call 12; refine (same_any _ _ _ (by assumption) (by assumption)).mono ?_; rintro e w3 ⟨rfl, n3, rfl⟩; rw [Hs.out])
        | (go_at_call 16; refine (prefix_any _ _ _ (by assumption) (by assumption)).mono ?_; rintro e w3 ⟨rfl, n3, rfl⟩; (try rw [Hp1.out]); (try rw [Hp2.out]))
        | (go_at_call 10; refine (text_any _ _ ha1).mono ?_; rintro e w4 ⟨rfl, q4⟩))
      go_ret
      exact ⟨rfl, below_dn (bnext (below_dn q1 _) q4) _⟩
    · obtain rfl : x = -1 := by omega
      clear hsx h0 h3
      by_cases h1 : y ≤ 0
      · have hz0 := Hzz.out (by omega) h1
        go_enter Try.func5, Try.ntmps5
        go_wp2_with (first
          | (go_at_call 9; refine (awake01 _).mono ?_; rintro e w1 ⟨rfl, q1⟩)
          | (go_at_call 14; refine (compare_any _ _ _ (by assumption) (by assumption)).mono ?_; rintro e w2 ⟨rfl, n2, rfl⟩; (try rw [Hx.out]); (try rw [Hy.out]); (try rw [Hz.out]); (try rw [Hyx.out]); (try rw [Hxc.out]))
          | (go_at_call 12; refine (same_any _ _ _ (by assumption) (by assumption)).mono ?_; rintro e w3 ⟨rfl, n3, rfl⟩; rw [Hs.out])
          | (go_at_call 16; refine (prefix_any _ _ _ (by assumption) (by assumption)).mono ?_; rintro e w3 ⟨rfl, n3, rfl⟩; (try rw [Hp1.out]); (try rw [Hp2.out]))
          | (go_at_call 10; refine (text_any _ _ ha1).mono ?_; rintro e w4 ⟨rfl, q4⟩))
        go_ret
        exact ⟨rfl, below_dn (bnext (below_dn q1 _) q4) _⟩
      · have h2 : 0 < y := by omega
        go_enter Try.func5, Try.ntmps5
        go_wp2_with (first
          | (go_at_call 9; refine (awake01 _).mono ?_; rintro e w1 ⟨rfl, q1⟩)
          | (go_at_call 14; refine (compare_any _ _ _ (by assumption) (by assumption)).mono ?_; rintro e w2 ⟨rfl, n2, rfl⟩; (try rw [Hx.out]); (try rw [Hy.out]); (try rw [Hz.out]); (try rw [Hyx.out]); (try rw [Hxc.out]))
          | (go_at_call 12; refine (same_any _ _ _ (by assumption) (by assumption)).mono ?_; rintro e w3 ⟨rfl, n3, rfl⟩; rw [Hs.out])
          | (go_at_call 16; refine (prefix_any _ _ _ (by assumption) (by assumption)).mono ?_; rintro e w3 ⟨rfl, n3, rfl⟩; (try rw [Hp1.out]); (try rw [Hp2.out]))
          | (go_at_call 10; refine (text_any _ _ ha1).mono ?_; rintro e w4 ⟨rfl, q4⟩))
        go_ret
        exact ⟨rfl, below_dn (bnext (below_dn q1 _) q4) _⟩

theorem order_law (a b c : ByteArray) (ha : a.size ≤ maxLen) (hb : b.size ≤ maxLen) (hc : c.size ≤ maxLen) (w : World) : Calls Try.prog 5 #[.string a, .string b, .string c] w fun e w' => e = .returned (.bool true) ∧ Below w.heap.size w w' := by
  unfold maxLen at ha hb hc
  by_cases h : a.size ≤ 60
  · by_cases h2 : b.size ≤ 60
    · by_cases h3 : c.size ≤ 60
      · exact order_walk a b c h h2 h3 w
      · go_enter Try.func5, Try.ntmps5
        go_wp2_with (go_at_call 9; refine (awake01 _).mono ?_; rintro e w1 ⟨rfl, q1⟩)
        go_ret
        exact ⟨rfl, q1⟩
    · go_enter Try.func5, Try.ntmps5
      go_wp2_with (go_at_call 9; refine (awake01 _).mono ?_; rintro e w1 ⟨rfl, q1⟩)
      all_goals
        go_ret
        exact ⟨rfl, q1⟩
  · go_enter Try.func5, Try.ntmps5
    go_wp2_with (go_at_call 9; refine (awake01 _).mono ?_; rintro e w1 ⟨rfl, q1⟩)
    all_goals
      go_ret
      exact ⟨rfl, q1⟩

theorem mid_halves (a b c d : ByteArray) (h : a.size = c.size) : sameF (a ++ b).data.toList (c ++ d).data.toList = (sameF a.data.toList c.data.toList && sameF b.data.toList d.data.toList) := by
  rw [app_toList, app_toList, sameF_halves (by simpa using h)]
set_option maxHeartbeats 1000000 in
theorem halves_walk (a b c d : ByteArray) (ha : a.size ≤ 60) (hb : b.size ≤ 60) (hc : c.size ≤ 60) (hd : d.size ≤ 60) (w : World) : Calls Try.prog 8 #[.string a, .string b, .string c, .string d] w fun e w' => e = .returned (.bool true) ∧ Below w.heap.size w w' := by
  have ha1 : a.size ≤ 1000000 := by omega
  have hb1 : b.size ≤ 1000000 := by omega
  have hc1 : c.size ≤ 1000000 := by omega
  have hd1 : d.size ≤ 1000000 := by omega
  have hA : decide ((60 : Int) < (a.size : Int)) = false := by simp; omega
  have hB : decide ((60 : Int) < (b.size : Int)) = false := by simp; omega
  have hC : decide ((60 : Int) < (c.size : Int)) = false := by simp; omega
  have hD : decide ((60 : Int) < (d.size : Int)) = false := by simp; omega
  have hab : (a ++ b).size ≤ 1000000 := by simp; omega
  have hcd : (c ++ d).size ≤ 1000000 := by simp; omega
  have hn1 : (bs (foldL a.data.toList)).size ≤ 60 := by simp; omega
  have hn2 : (bs (foldL b.data.toList)).size ≤ 60 := by simp; omega
  have hfa : bs (foldL (a ++ b).data.toList) = bs (foldL a.data.toList) ++ bs (foldL b.data.toList) := by rw [app_toList, foldL_append, bs_append]
  have Hfa := Lib.hid hfa
  clear hfa
  by_cases h : a.size = c.size
  · have hm := mid_halves a b c d h
    have hne : ((a.size : Int) != (c.size : Int)) = false := by rw [h]; simp
    have Hm := Lib.hid hm
    clear hm h
    obtain ⟨s, hs⟩ : ∃ s, sameF a.data.toList c.data.toList = s := ⟨_, rfl⟩
    obtain ⟨t, ht⟩ : ∃ t, sameF b.data.toList d.data.toList = t := ⟨_, rfl⟩
    rw [hs, ht] at Hm
    have Hs := Lib.hid hs
    have Ht := Lib.hid ht
    clear hs ht
    cases s <;> cases t
    all_goals
      go_enter Try.func8, Try.ntmps8
      go_wp2_with fail
      refine (awake01 _).mono ?_
      rintro e w1 ⟨rfl, q1⟩
      go_wp2_with fail
      refine (text_any _ _ hab).mono ?_
      rintro e w2 ⟨rfl, q2⟩
      rw [Hfa.out]
      go_wp2_with fail
      refine (text_any _ _ ha1).mono ?_
      rintro e w3 ⟨rfl, q3⟩
      go_wp2_with fail
      refine (text_any _ _ hb1).mono ?_
      rintro e w4 ⟨rfl, q4⟩
      have q := bnext (bnext (bnext q1 q2) q3) q4
      clear q1 q2 q3 q4
      go_wp2_with fail
      refine (same_any _ _ _ hab hcd).mono ?_
      rintro e w5 ⟨rfl, n5, rfl⟩
      rw [Hm.out]
      go_wp2_with fail
      refine (same_any _ _ _ ha1 hc1).mono ?_
      rintro e w6 ⟨rfl, n6, rfl⟩
      rw [Hs.out]
      go_wp2_with (go_at_call 12; refine (same_any _ _ _ hb1 hd1).mono ?_; rintro e w7 ⟨rfl, n7, rfl⟩; rw [Ht.out])
      go_ret
      exact ⟨rfl, below_dn q _⟩
  · have hne : ((a.size : Int) != (c.size : Int)) = true := by rw [bne_iff_ne]; omega
    clear h
    go_enter Try.func8, Try.ntmps8
    go_wp2_with fail
    refine (awake01 _).mono ?_
    rintro e w1 ⟨rfl, q1⟩
    go_wp2_with fail
    refine (text_any _ _ hab).mono ?_
    rintro e w2 ⟨rfl, q2⟩
    rw [Hfa.out]
    go_wp2_with fail
    refine (text_any _ _ ha1).mono ?_
    rintro e w3 ⟨rfl, q3⟩
    go_wp2_with fail
    refine (text_any _ _ hb1).mono ?_
    rintro e w4 ⟨rfl, q4⟩
    have q := bnext (bnext (bnext q1 q2) q3) q4
    clear q1 q2 q3 q4
    go_wp2_with fail
    go_ret
    exact ⟨rfl, q⟩
theorem halves_law (a b c d : ByteArray) (ha : a.size ≤ maxLen) (hb : b.size ≤ maxLen) (hc : c.size ≤ maxLen) (hd : d.size ≤ maxLen) (w : World) : Calls Try.prog 8 #[.string a, .string b, .string c, .string d] w fun e w' => e = .returned (.bool true) ∧ Below w.heap.size w w' := by
  unfold maxLen at ha hb hc hd
  by_cases h : a.size ≤ 60 ∧ b.size ≤ 60 ∧ c.size ≤ 60 ∧ d.size ≤ 60
  · exact halves_walk a b c d h.1 h.2.1 h.2.2.1 h.2.2.2 w
  · go_enter Try.func8, Try.ntmps8
    go_wp2_with (go_at_call 9; refine (awake01 _).mono ?_; rintro e w1 ⟨rfl, q1⟩)
    all_goals
      go_ret
      exact ⟨rfl, q1⟩
end Go.Proofs.Ytjlgfnekcideaaa
